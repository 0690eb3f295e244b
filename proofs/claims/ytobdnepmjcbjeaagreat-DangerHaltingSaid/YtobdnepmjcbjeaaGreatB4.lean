/- What the laws of this seat share: part 4. -/
import Derived.Test.YtobdnepmjcbjeaaGreatB3
import Derived.Shelf.SlSortCmp.NoneTotal
import Derived.Shelf.SlGeneric
import Derived.Ground.SlsfProg
import Derived.Test.YtobdnepmjcbjeaaGreatProg
import Derived.Sort.OwnSortedInts
import Derived.Deep.RegionHeld3

namespace Go.Proofs
open Go.Shelf
def YtobdnepmjcbjeaaGreat.sortL_ren : Go.Shelf.Ren := ⟨fun | 6 => 78 | 15 => 98 | 14 => 97 | 28 => 118 | 29 => 119 | 20 => 110 | 21 => 111 | 22 => 112 | 23 => 113 | 24 => 114 | 25 => 115 | 26 => 116 | 27 => 117 | 46 => 130 | 47 => 131 | 48 => 132 | 49 => 133 | 50 => 134 | 57 => 136 | n => n, fun | 22 => 22 | 24 => 3 | 25 => 48 | 3 => 3 | 39 => 98 | 0 => 0 | 53 => 110 | 55 => 112 | 4 => 4 | 46 => 104 | 45 => 103 | 50 => 87 | 5 => 5 | 9 => 9 | 66 => 116 | 70 => 101 | 76 => 122 | 77 => 123 | n => n, fun | n => n⟩
theorem YtobdnepmjcbjeaaGreat.sortL : Go.Proofs.SlLaysF.n6 Tryz.prog YtobdnepmjcbjeaaGreat.sortL_ren := {
  mixed := by kernel_rfl
  f6 := ⟨Tryz.f78.name, by decide, Tryz.func78.trans (congrArg some (by kernel_rfl))⟩
  f14 := ⟨Tryz.f97.name, by decide, Tryz.func97.trans (congrArg some (by kernel_rfl))⟩
  f15 := Tryz.func98.trans (congrArg some (by kernel_rfl))
  f20 := ⟨Tryz.f110.name, by decide, Tryz.func110.trans (congrArg some (by kernel_rfl))⟩
  f21 := ⟨Tryz.f111.name, by decide, Tryz.func111.trans (congrArg some (by kernel_rfl))⟩
  f22 := ⟨Tryz.f112.name, by decide, Tryz.func112.trans (congrArg some (by kernel_rfl))⟩
  f23 := ⟨Tryz.f113.name, by decide, Tryz.func113.trans (congrArg some (by kernel_rfl))⟩
  f24 := ⟨Tryz.f114.name, by decide, Tryz.func114.trans (congrArg some (by kernel_rfl))⟩
  f25 := ⟨Tryz.f115.name, by decide, Tryz.func115.trans (congrArg some (by kernel_rfl))⟩
  f26 := ⟨Tryz.f116.name, by decide, Tryz.func116.trans (congrArg some (by kernel_rfl))⟩
  f27 := ⟨Tryz.f117.name, by decide, Tryz.func117.trans (congrArg some (by kernel_rfl))⟩
  f28 := Tryz.func118.trans (congrArg some (by kernel_rfl))
  f29 := Tryz.func119.trans (congrArg some (by kernel_rfl))
  f46 := ⟨Tryz.f130.name, by decide, Tryz.func130.trans (congrArg some (by kernel_rfl))⟩
  f47 := Tryz.func131.trans (congrArg some (by kernel_rfl))
  f48 := Tryz.func132.trans (congrArg some (by kernel_rfl))
  f49 := ⟨Tryz.f133.name, by decide, Tryz.func133.trans (congrArg some (by kernel_rfl))⟩
  f50 := ⟨Tryz.f134.name, by decide, Tryz.func134.trans (congrArg some (by kernel_rfl))⟩
  f57 := ⟨Tryz.f136.name, by decide, Tryz.func136.trans (congrArg some (by kernel_rfl))⟩
  t0 := Tryz.underlying0
  a0 := Tryz.isAgg0
  z0 := Tryz.sizeOf0
  v0 := Tryz.zeroValue0
  t3 := Tryz.underlying3
  a3 := Tryz.isAgg3
  z3 := Tryz.sizeOf3
  v3 := Tryz.zeroValue3
  t4 := Tryz.underlying4
  a4 := Tryz.isAgg4
  z4 := Tryz.sizeOf4
  v4 := Tryz.zeroValue4
  t5 := Tryz.underlying5
  a5 := Tryz.isAgg5
  z5 := Tryz.sizeOf5
  v5 := Tryz.zeroValue5
  t9 := Tryz.underlying9
  a9 := Tryz.isAgg9
  z9 := Tryz.sizeOf9
  v9 := Tryz.zeroValue9
  t22 := Tryz.underlying22
  a22 := Tryz.isAgg22
  z22 := Tryz.sizeOf22
  v22 := Tryz.zeroValue22
  a24 := Tryz.isAgg3
  z24 := Tryz.sizeOf3
  t25 := Tryz.underlying48
  a25 := Tryz.isAgg48
  z25 := Tryz.sizeOf48
  v25 := Tryz.zeroValue48
  t39 := Tryz.underlying98
  a39 := Tryz.isAgg98
  z39 := Tryz.sizeOf98
  v39 := Tryz.zeroValue98
  t45 := Tryz.underlying103
  a45 := Tryz.isAgg103
  z45 := Tryz.sizeOf103
  v45 := Tryz.zeroValue103
  t46 := Tryz.underlying104
  a46 := Tryz.isAgg104
  z46 := Tryz.sizeOf104
  v46 := Tryz.zeroValue104
  t50 := Tryz.underlying87
  a50 := Tryz.isAgg87
  z50 := Tryz.sizeOf87
  v50 := Tryz.zeroValue87
  t53 := Tryz.underlying110
  a53 := Tryz.isAgg110
  z53 := Tryz.sizeOf110
  v53 := Tryz.zeroValue110
  t55 := Tryz.underlying112
  a55 := Tryz.isAgg112
  z55 := Tryz.sizeOf112
  v55 := Tryz.zeroValue112
  t66 := Tryz.underlying116
  a66 := Tryz.isAgg116
  z66 := Tryz.sizeOf116
  v66 := Tryz.zeroValue116
  t70 := Tryz.underlying101
  a70 := Tryz.isAgg101
  z70 := Tryz.sizeOf101
  v70 := Tryz.zeroValue101
  t76 := Tryz.underlying122
  a76 := Tryz.isAgg122
  z76 := Tryz.sizeOf122
  v76 := Tryz.zeroValue122
  t77 := Tryz.underlying123
  a77 := Tryz.isAgg123
  z77 := Tryz.sizeOf123
  v77 := Tryz.zeroValue123 }
end Go.Proofs

namespace Go.Proofs.YtobdnepmjcbjeaaGreat
set_option linter.unusedVariables false
set_option linter.unusedSimpArgs false
open Go.RowKit Go.Sort

theorem ltN_iff (x y : Int) : Go.Proofs.ltOf cmpN x y = true ↔ (rkA x < rkA y ∨ (rkA x = rkA y ∧ (rkB x < rkB y ∨ (rkB x = rkB y ∧ x < y)))) := by
  unfold Go.Proofs.ltOf
  rw [decide_eq_true_iff, cmpN_lt]

theorem ltN_not (x y : Int) : Go.Proofs.ltOf cmpN x y = false ↔ ¬ (rkA x < rkA y ∨ (rkA x = rkA y ∧ (rkB x < rkB y ∨ (rkB x = rkB y ∧ x < y)))) := by
  rw [← ltN_iff, Bool.not_eq_true]

theorem swoN : SWO (Go.Proofs.ltOf cmpN) where
  irrefl x := by rw [ltN_not]; omega
  trans x y z h1 h2 := by rw [ltN_iff] at *; omega
  ntrans x y z h1 h2 := by rw [ltN_not] at *; omega

theorem totN (x y : Int) (h1 : Go.Proofs.ltOf cmpN x y = false) (h2 : Go.Proofs.ltOf cmpN y x = false) : x = y := by rw [ltN_not] at *; omega

def zs (l : List Nat) : List Int := l.map (fun t : Nat => (t : Int))

theorem zs_len (l : List Nat) : (zs l).length = l.length := List.length_map _

theorem zs_get (l : List Nat) (k : Nat) : (zs l).getD k 0 = ((l.getD k 0 : Nat) : Int) := by
  unfold zs
  rw [List.getD_eq_getElem?_getD, List.getD_eq_getElem?_getD, List.getElem?_map]
  cases l[k]? <;> rfl

theorem zs_snoc (l : List Nat) (x : Nat) : zs (l ++ [x]) = zs l ++ [(x : Int)] := by unfold zs; rw [List.map_append]; rfl

theorem NodesAt.of_ownZ {W : World} {B : Nat} {v : Value} {l : List Nat} (h : W.ownsRow B 3 1 v l.length ((zs l).map (Value.int .i64))) : NodesAt (fun b => B ≤ b) W v (zs l) := NodesAt.of_own (by rw [zs_len]; exact h)

theorem own_snocZ {w : World} {v : Value} {B : Nat} {l : List Nat} {x : Nat} (h : w.ownsRow B 3 1 v (l.length + 1) ((zs l).map (Value.int .i64) ++ [.int .i64 (x : Int)])) : w.ownsRow B 3 1 v (l ++ [x]).length ((zs (l ++ [x])).map (Value.int .i64)) := by
  rw [zs_snoc, List.map_append, List.length_append]; exact h

/-- In the order of sets, each once. -/
def Asc (l : List Nat) : Prop := l.Pairwise (fun a b => keyC a < keyC b)

theorem keyC_inj {a b : Nat} (ha : a < 1024) (hb : b < 1024) (h : keyC a = keyC b) : a = b := by unfold keyC at h; omega

theorem sorted_nat (l : List Nat) (hl : ∀ t ∈ l, t < 1024) (hd : l.Nodup) :
    ∃ m : List Nat, (zs l).mergeSort (fun x y => !(Go.Proofs.ltOf cmpN) y x) = zs m ∧ m.Perm l ∧ Asc m := by
  have hp := List.mergeSort_perm (zs l) (fun x y => !(Go.Proofs.ltOf cmpN) y x)
  have hs := List.pairwise_mergeSort (le := fun x y => !(Go.Proofs.ltOf cmpN) y x)
    (fun a b c h1 h2 => by simp only [Bool.not_eq_true', ltN_not] at *; omega)
    (fun a b => by
      by_cases h : Go.Proofs.ltOf cmpN b a = true
      · have : Go.Proofs.ltOf cmpN a b = false := by rw [ltN_iff] at h; rw [ltN_not]; omega
        simp [this]
      · simp [Bool.eq_false_iff.2 h]) (zs l)
  generalize (zs l).mergeSort (fun x y => !(Go.Proofs.ltOf cmpN) y x) = ts at *
  have hz : ∀ x ∈ ts, ∃ t : Nat, x = (t : Int) ∧ t ∈ l := fun x hx => by
    have := hp.mem_iff.1 hx
    obtain ⟨t, ht, rfl⟩ := List.mem_map.1 this
    exact ⟨t, rfl, ht⟩
  have hts : ts = zs (ts.map Int.toNat) := by
    unfold zs
    rw [List.map_map]
    conv => lhs; rw [← List.map_id ts]
    exact List.map_congr_left (fun x hx => by obtain ⟨t, rfl, _⟩ := hz x hx; rfl)
  have hpm : (ts.map Int.toNat).Perm l := by
    have := hp.map Int.toNat
    refine this.trans (List.Perm.of_eq ?_)
    unfold zs
    rw [List.map_map]
    conv => rhs; rw [← List.map_id l]
    exact List.map_congr_left (fun x _ => rfl)
  refine ⟨ts.map Int.toNat, hts, hpm, ?_⟩
  have hnd : (ts.map Int.toNat).Nodup := hpm.nodup_iff.2 hd
  unfold Asc
  generalize hm : ts.map Int.toNat = m at *
  rw [hts] at hs
  have hs2 : m.Pairwise (fun a b : Nat => (!(Go.Proofs.ltOf cmpN) (b : Int) (a : Int)) = true) := List.pairwise_map.1 hs
  have h3 := (List.Pairwise.and hs2 (List.nodup_iff_pairwise_ne.1 hnd))
  refine List.Pairwise.imp_of_mem (fun {a b} ha hb h => ?_) h3
  obtain ⟨h1, h2⟩ := h
  have ha' := hl a (hpm.mem_iff.1 ha)
  have hb' := hl b (hpm.mem_iff.1 hb)
  have h4 : ¬ keyC b < keyC a := by
    rw [← cmpN_cast b a hb' ha']
    simp only [Bool.not_eq_true'] at h1
    unfold Go.Proofs.ltOf at h1
    exact of_decide_eq_false h1
  rcases Nat.lt_trichotomy (keyC a) (keyC b) with h | h | h
  · exact h
  · exact (h2 (keyC_inj ha' hb' h)).elim
  · exact (h4 h).elim

theorem enters_cmp : ∀ args w, (callFunc 79 args).run Tryz.prog w = .ok (.enter 79 args) w := enters_of Tryz.func79 (by kernel_rfl) rfl

set_option maxHeartbeats 1000000 in
/-- slices.SortFunc by nodeset.Compare, over a row of the call's own that holds sets. -/
theorem sortN_run (l : List Nat) (hl : ∀ t ∈ l, t < 1024) (hd : l.Nodup) (v : Value) (B : Nat) (w : World) (hlen : l.length ≤ 100000) (hown : w.ownsRow B 3 1 v l.length ((zs l).map (Value.int .i64))) :
    Calls Tryz.prog 78 #[v, .func (.func 79) #[] #[]] w fun e w' => e = .returned (.tuple #[]) ∧ ∃ m : List Nat, m.Perm l ∧ Asc m ∧ m.length = l.length ∧ w'.ownsRow B 3 1 v l.length ((zs m).map (Value.int .i64)) ∧ w.grownBy w' v.ownBlock := by
  obtain ⟨m, hm, hp, ha⟩ := sorted_nat l hl hd
  have hlm := hp.length_eq
  rcases hown.2 with ⟨rfl, h0⟩ | ⟨g, cap, cur, rfl, hB, hcell, hnc, hcm, hsz, htk⟩
  · obtain rfl := List.eq_nil_of_length_eq_zero h0
    have h := AnyF.slices_SortFunc_none (P := Tryz.prog) (ρ := sortL_ren) { sortL with } none 0 (.func (.func 79) #[] #[]) w
    refine (show Calls Tryz.prog 78 _ _ _ from h).mono ?_
    rintro e w' ⟨rfl, rfl⟩
    obtain rfl := List.eq_nil_of_length_eq_zero (show m.length = 0 by rw [hlm]; rfl)
    exact ⟨rfl, [], hp, ha, rfl, hown, World.grownBy.refl _ _⟩
  · have hg : g < w.heap.size := (Array.getElem?_eq_some_iff.1 hcell).1
    have hH : Holds (Value.int .i64) w g 0 (zs l).toArray := holds_of_blockI hcell (by rw [zs_len]; simpa using htk)
    have hS := Any.slices_SortFunc_total sortL (Value.int .i64) (fun _ => rfl) cmpN swoN 79 #[] g 0 cap (zs l).toArray w enters_cmp
      (fun mm os dk hs x y => (pcompare_run x y _).mono fun _ _ ⟨he, os', hw⟩ => ⟨he, 0, os', by rw [hw]; rfl⟩) hH hg (by simp [zs_len]; omega) totN
    rw [show (zs l).toArray.size = l.length by simp [zs_len], show (zs l).toArray.toList = zs l from rfl, hm] at hS
    refine (show Calls Tryz.prog 78 _ _ _ from hS).mono ?_
    rintro e w' ⟨rfl, n, os, rfl⟩
    have h1 := ownsRow_sortedI (w := w) (base := B) (g := g) (cap := cap) (n := n) (e := 3) (os := os) (cur := cur) (ss := zs l) (ts := zs m) (by rw [zs_len, zs_len, hlm]) hB hcell (by rw [zs_len]; exact hnc) hcm hsz
    rw [zs_len] at h1
    exact ⟨rfl, m, hp, ha, hlm, h1, grownBy_sortedI _⟩

end Go.Proofs.YtobdnepmjcbjeaaGreat

namespace Go.Proofs.YtobdnepmjcbjeaaGreat
set_option linter.unusedVariables false
set_option linter.unusedSimpArgs false
open Go.RowKit

/-- The sets below 2^n of which p holds, in order. -/
def IsFind (n : Nat) (p : Nat → Bool) (l : List Nat) : Prop := Asc l ∧ (∀ t, t ∈ l ↔ (t < 2 ^ n ∧ p t = true)) ∧ l.length ≤ 1024

set_option maxRecDepth 100000 in
set_option maxHeartbeats 4000000 in
theorem findL_run (tb n : Nat) (hn : n ≤ 10) (p : Nat → Bool) (w : World) (hT : ThereAt w tb p) :
    Calls Tryz.prog 55 #[.int .i64 (n : Int), .func (.func 70) #[] #[.pointer (some ⟨tb, 0, none⟩)]] w fun e w' => ∃ v l, e = .returned v ∧ w'.ownsRow w.heap.size 3 1 v l.length ((zs l).map (Value.int .i64)) ∧ IsFind n p l ∧ Below w.heap.size w w' := by
  obtain ⟨i0, hin, hz0, hz1, hz2⟩ := info_parts infoInt
  have hp := pow11 n (by omega)
  have h10 : 2 ^ n ≤ 2 ^ 10 := Nat.pow_le_pow_right (by omega) hn
  have HF := Lib.hid (show ∀ l, IsFind n p l ↔ (Asc l ∧ (∀ t, t ∈ l ↔ (t < 2 ^ n ∧ p t = true)) ∧ l.length ≤ 1024) from fun _ => Iff.rfl)
  have hn0 : (0 : Int) ≤ (n : Int) := by omega
  have hn64 : ¬ (64 : Int) ≤ (n : Int) := by omega
  obtain ⟨N, hN⟩ : ∃ N, 2 ^ n = N := ⟨_, rfl⟩
  rw [hN] at hp h10
  rw [hN] at HF
  clear hN
  have HT := Lib.hid hT
  have htb := hT.lt
  clear hT
  go_enter Tryz.func55, Tryz.ntmps55
  go_wp2_with fail
  go_loopw [5, 9] (fun v t W => ∃ (k : Nat) (l : List Nat) (vv : Value), k ≤ N ∧ v = vv ∧ t = .int .i64 k ∧ W.ownsRow w.heap.size 3 1 vv l.length ((zs l).map (Value.int .i64)) ∧ Hid (l = (List.range k).filter p) ∧ Hid (Below w.heap.size w W)) (fun _ t _ => N - (intOf t).toNat)
  case atStart => exact ⟨0, [], .slice none 0 0, by omega, rfl, rfl, World.ownsRow_nil _ _ _ _, Lib.hid rfl, Lib.hid (bref _)⟩
  case round =>
    obtain ⟨k, l, v, hk, hv, rfl, hown, hL, hB⟩ := hrel
    replace hv := hv.symm
    subst hv
    have hlen : l.length ≤ k := by rw [hL.out]; exact Nat.le_trans (List.length_filter_le _ _) (by simp)
    have HOWN := Lib.hid hown
    by_cases hlt : k < N
    · have HTk := Lib.hid (HT.out.keep (hB.out.block tb htb))
      rcases (show p k = false ∨ p k = true by cases p k <;> simp) with hpk | hpk
      · have HL2 := Lib.hid (show l = (List.range (k + 1)).filter p by rw [List.range_succ, List.filter_append, ← hL.out]; simp [hpk])
        have HP := Lib.hid hpk
        clear hown hpk
        go_wp2_with fail
        refine (least1_run tb p k (by omega) _ HTk.out).mono ?_
        rintro e w2 ⟨rfl, rfl⟩
        rw [HP.out]
        go_wp2_with fail
        go_roundw
        case rel => exact ⟨k + 1, l, _, by omega, rfl, by go_num, HOWN.out, HL2, hB⟩
        case measure => simp [intOf]; omega
      · have HL2 := Lib.hid (show l ++ [k] = (List.range (k + 1)).filter p by rw [List.range_succ, List.filter_append, ← hL.out]; simp [hpk])
        have HP := Lib.hid hpk
        have hbs := hB.out.size
        have hzl := zs_len l
        clear hpk
        go_wp2_with fail
        refine (least1_run tb p k (by omega) _ HTk.out).mono ?_
        rintro e w2 ⟨rfl, rfl⟩
        rw [HP.out]
        go_wp2_with (at_builtin; refine wpList_append_own _ rfl _ _ 22 rfl w.heap.size 3 i0 (.int .i64 0) 1 8 Tryz.underlying22 hin hz0 hz1 hz2 rfl (by decide) _ _ _ rfl (hown.alloc _) ⟨wr.heap.size, 0, none⟩ 1 1 [.int .i64 (k : Int)] rfl rfl (cell_one_new _ _ _) (fun u hu => by simp at hu; subst hu; rfl) (by unfold maxLen; omega) (by omega) (by simp; omega) ?_; intro v' w1 hown' hgrow hnil)
        have HO := Lib.hid (own_snocZ hown')
        have HB4 := Lib.hid (Below.grown (balloc hB.out (.cells #[.int .i64 (k : Int)] 3)) hgrow (by simp; omega) (fun j hj => (hown.lt j hj).1))
        clear hown' hgrow hnil hown
        go_roundw
        case rel => exact ⟨k + 1, l ++ [k], _, by omega, rfl, by go_num, HO.out, HL2, HB4⟩
        case measure => simp [intOf]; omega
    · obtain rfl : k = N := by omega
      have hmem : ∀ t ∈ l, t < 1024 := fun t ht => by
        rw [hL.out] at ht
        have := List.mem_range.1 (List.mem_filter.1 ht).1
        omega
      have hnd : l.Nodup := by rw [hL.out]; exact List.nodup_iff_pairwise_ne.2 ((List.nodup_iff_pairwise_ne.1 List.nodup_range).filter _)
      have HS := Lib.hid (fun W => sortN_run l hmem hnd v w.heap.size W (by omega))
      have HLT := Lib.hid (fun j hj => (hown.lt j hj).1)
      obtain ⟨A, c, hv⟩ := own_slice hown
      clear hown hmem hnd
      subst hv
      go_wp2_with fail
      refine (HS.out _ HOWN.out).mono ?_
      rintro e w2 ⟨rfl, m, hpm, hasc, hml, hown2, hg2⟩
      have HR := Lib.hid (show w2.ownsRow w.heap.size 3 1 (.slice A l.length c) m.length ((zs m).map (Value.int .i64)) ∧ IsFind n p m ∧ Below w.heap.size w w2 from
        ⟨by rw [hml]; exact hown2, (HF.out m).2 ⟨hasc, fun t => by rw [hpm.mem_iff, hL.out, List.mem_filter, List.mem_range], by omega⟩, Below.grown hB.out hg2 hB.out.size (fun j hj => HLT.out j hj)⟩)
      clear hown2 hg2 hpm hasc hml
      go_wp2_with fail
      go_ret
      exact ⟨_, m, rfl, HR.out⟩

set_option maxHeartbeats 1000000 in
theorem indexL2_run (P : Nat → Prop) (v : Value) (ls : List Nat) (sb s : Nat) (w : World) (hN : NodesAt P w v (zs ls)) (hl : ∀ t ∈ ls, t < 1024) (hlen : ls.length ≤ 100000) (hs : s < 1024) (hc : w.cell? ⟨sb, 0, none⟩ = some (.int .i64 (s : Int))) :
    Calls Tryz.prog 77 #[v, .func (.func 71) #[] #[.pointer (some ⟨sb, 0, none⟩)]] w fun e w' => (∃ i : Int, e = .returned (.int .i64 i) ∧ decide (0 ≤ i) = ls.any (fun t => subB t s)) ∧ w = w' := by
  obtain ⟨A, c, rfl, hN2⟩ := hN
  rw [zs_len] at hN2 ⊢
  have H := Lib.hid hN2
  have HL := Lib.hid hl
  clear hN2 hl
  go_enter Tryz.func77, Tryz.ntmps77
  go_wp2_with fail
  go_loop [8] (fun t => ∃ k : Nat, k ≤ ls.length ∧ t = .int .i64 k ∧ Hid ((ls.take k).any (fun t => subB t s) = false)) (fun t => ls.length - (intOf t).toNat)
  case atStart => exact ⟨0, by omega, rfl, Lib.hid rfl⟩
  case round =>
    obtain ⟨k, hk, rfl, hA⟩ := hrel
    by_cases hlt : k < ls.length
    · obtain ⟨b, off, rfl, hPb, hcc⟩ := H.out k hlt
      have hx0 : ls[k]? = some (ls.getD k 0) := by rw [List.getD_eq_getElem?_getD, List.getElem?_eq_getElem hlt]; rfl
      have hx1 := HL.out _ (List.mem_of_getElem? hx0)
      rw [zs_get] at hcc
      have HTK := Lib.hid (show ls.take (k + 1) = ls.take k ++ [ls.getD k 0] by rw [List.take_add_one, hx0]; rfl)
      have HM := Lib.hid (List.mem_of_getElem? hx0)
      clear hx0 hPb
      generalize ls.getD k 0 = x at *
      rcases (show subB x s = false ∨ subB x s = true by cases subB x s <;> simp) with hq | hq
      · have HQ := Lib.hid hq
        have HA2 := Lib.hid (show (ls.take (k + 1)).any (fun t => subB t s) = false by rw [HTK.out, List.any_append, hA.out]; simp [hq])
        clear hq
        go_wp2_with fail
        refine (least2_run sb s x hx1 hs _ hc).mono ?_
        rintro e w2 ⟨rfl, rfl⟩
        rw [HQ.out]
        go_wp2_with fail
        go_round
        case rel => exact ⟨k + 1, by omega, by go_num, HA2⟩
        case measure => simp [intOf]; omega
      · have HQ := Lib.hid hq
        have HA2 := Lib.hid (show ls.any (fun t => subB t s) = true from List.any_eq_true.2 ⟨x, HM.out, hq⟩)
        clear hq
        go_wp2_with fail
        refine (least2_run sb s x hx1 hs _ hc).mono ?_
        rintro e w2 ⟨rfl, rfl⟩
        rw [HQ.out]
        go_wp2_with fail
        go_ret
        exact ⟨⟨_, rfl, by rw [HA2.out]; exact decide_eq_true (by omega)⟩, rfl⟩
    · obtain rfl : k = ls.length := by omega
      have HA2 := Lib.hid (show ls.any (fun t => subB t s) = false by have := hA.out; rwa [List.take_length] at this)
      go_wp2_with fail
      go_ret
      exact ⟨⟨_, rfl, by rw [HA2.out]; rfl⟩, rfl⟩

set_option maxHeartbeats 1000000 in
theorem containsL2_run (P : Nat → Prop) (v : Value) (ls : List Nat) (sb s : Nat) (w : World) (hN : NodesAt P w v (zs ls)) (hl : ∀ t ∈ ls, t < 1024) (hlen : ls.length ≤ 100000) (hs : s < 1024) (hc : w.cell? ⟨sb, 0, none⟩ = some (.int .i64 (s : Int))) :
    Calls Tryz.prog 53 #[v, .func (.func 71) #[] #[.pointer (some ⟨sb, 0, none⟩)]] w fun e w' => e = .returned (.bool (ls.any (fun t => subB t s))) ∧ w = w' := by
  have hN0 := hN
  obtain ⟨A, c, rfl, _⟩ := hN0
  have HN := Lib.hid hN
  have HL := Lib.hid hl
  have HC := Lib.hid hc
  clear hN hl hc
  go_enter Tryz.func53, Tryz.ntmps53
  go_wp2_with fail
  refine (indexL2_run P _ ls sb s _ HN.out HL.out hlen hs HC.out).mono ?_
  rintro e w2 ⟨⟨i, rfl, hi⟩, rfl⟩
  have HI := Lib.hid hi
  clear hi
  go_wp2_with fail
  go_ret
  exact ⟨by rw [← HI.out]; rfl, rfl⟩

theorem subB_iff {t s : Nat} : subB t s = true ↔ t &&& s = t := by unfold subB; simp

theorem subB_refl (t : Nat) : subB t t = true := subB_iff.2 (Nat.and_self t)

theorem subB_trans {a b c : Nat} (h1 : subB a b = true) (h2 : subB b c = true) : subB a c = true := by
  rw [subB_iff] at *
  rw [← h1, Nat.and_assoc, h2]

theorem subB_bit {t s k : Nat} (h : subB t s = true) (hk : t.testBit k = true) : s.testBit k = true := by
  rw [subB_iff] at h
  rw [← h, Nat.testBit_and, Bool.and_eq_true] at hk
  exact hk.2

theorem subB_le {t s : Nat} (h : subB t s = true) : t ≤ s := by
  rw [subB_iff] at h
  rw [← h]; exact Nat.and_le_right

theorem subB_popc {t s : Nat} (h : subB t s = true) : popc t ≤ popc s := by
  unfold popc
  exact List.countP_mono_left (fun i _ hi => subB_bit h hi)

theorem subB_key {t s : Nat} (h : subB t s = true) (hne : t ≠ s) : keyC t < keyC s := by
  have h1 := subB_popc h
  have h2 := subB_le h
  unfold keyC
  omega

/-- The sets of which p holds and of which no proper subset is such a set, in order. -/
def IsLeast (p : Nat → Bool) (l : List Nat) : Prop := Asc l ∧ (∀ t, t ∈ l ↔ (t < 1024 ∧ p t = true ∧ ∀ y, p y = true → subB y t = true → y = t)) ∧ l.length ≤ 1024

theorem asc_nodup {l : List Nat} (h : Asc l) : l.Nodup := List.nodup_iff_pairwise_ne.2 (h.imp (fun h e => by rw [e] at h; exact Nat.lt_irrefl _ h))

theorem asc_get {l : List Nat} (h : Asc l) {i j : Nat} {a b : Nat} (ha : l[i]? = some a) (hb : l[j]? = some b) (hk : keyC a < keyC b) : i < j := by
  rcases Nat.lt_trichotomy i j with hij | hij | hij
  · exact hij
  · subst hij; rw [ha] at hb; cases hb; omega
  · obtain ⟨h1, h2⟩ := List.getElem?_eq_some_iff.1 ha
    obtain ⟨h3, h4⟩ := List.getElem?_eq_some_iff.1 hb
    have := List.pairwise_iff_getElem.1 h j i h3 h1 hij
    rw [h2, h4] at this
    omega

/-- Two lists in order with the same sets are one. -/
theorem asc_ext : ∀ {l m : List Nat}, Asc l → Asc m → (∀ t, t ∈ l ↔ t ∈ m) → l = m
  | [], [], _, _, _ => rfl
  | [], b :: m, _, _, h => by have := (h b).2 (by simp); cases this
  | a :: l, [], _, _, h => by have := (h a).1 (by simp); cases this
  | a :: l, b :: m, h1, h2, h => by
    obtain ⟨ha, hl⟩ := List.pairwise_cons.1 h1
    obtain ⟨hb, hm⟩ := List.pairwise_cons.1 h2
    have e : a = b := by
      rcases List.mem_cons.1 ((h a).1 (by simp)) with h3 | h3
      · exact h3
      · rcases List.mem_cons.1 ((h b).2 (by simp)) with h4 | h4
        · exact h4.symm
        · have := hb a h3; have := ha b h4; omega
    subst e
    rw [asc_ext hl hm (fun t => by
      have h3 := h t
      rw [List.mem_cons, List.mem_cons] at h3
      constructor
      · intro ht
        rcases h3.1 (.inr ht) with h4 | h4
        · subst h4; have := ha t ht; omega
        · exact h4
      · intro ht
        rcases h3.2 (.inr ht) with h4 | h4
        · subst h4; have := hb t ht; omega
        · exact h4)]

theorem isLeast_ext {p q : Nat → Bool} {l m : List Nat} (h1 : IsLeast p l) (h2 : IsLeast q m) (hpq : ∀ t, t < 1024 → p t = q t) (hp : ∀ t, p t = true → t < 1024) (hq : ∀ t, q t = true → t < 1024) : l = m := by
  have e : p = q := by
    funext t
    rcases Nat.lt_or_ge t 1024 with h | h
    · exact hpq t h
    · cases ha : p t <;> cases hb : q t
      · rfl
      · have := hq t hb; omega
      · have := hp t ha; omega
      · rfl
  subst e
  exact asc_ext h1.1 h2.1 (fun t => by rw [h1.2.1 t, h2.2.1 t])

/-- Below each set of which p holds there is a least one. -/
theorem least_below {p : Nat → Bool} : ∀ (n t : Nat), t ≤ n → p t = true → ∃ y, p y = true ∧ subB y t = true ∧ ∀ z, p z = true → subB z y = true → z = y := by
  intro n
  induction n with
  | zero =>
    intro t ht hp
    obtain rfl : t = 0 := by omega
    exact ⟨0, hp, subB_refl _, fun z _ hz => by have := subB_le hz; omega⟩
  | succ n ih =>
    intro t ht hp
    by_cases h : ∃ z, p z = true ∧ subB z t = true ∧ z ≠ t
    · obtain ⟨z, h1, h2, h3⟩ := h
      have := subB_le h2
      obtain ⟨y, y1, y2, y3⟩ := ih z (by omega) h1
      exact ⟨y, y1, subB_trans y2 h2, y3⟩
    · exact ⟨t, hp, subB_refl _, fun z hz hs => Classical.byContradiction (fun hne => h ⟨z, hz, hs, hne⟩)⟩

/-- One set further. -/
theorem least_step {p : Nat → Bool} {n : Nat} (hn : ∀ t, p t = true → t < 2 ^ n) {L : List Nat} (hL : IsFind n p L) (q : Nat → Bool) (hq : ∀ t, q t = true ↔ (p t = true ∧ ∀ y, p y = true → subB y t = true → y = t)) {k s : Nat} (hk : L[k]? = some s) :
    ((L.take k).filter q).any (fun t => subB t s) = !q s := by
  have hps := ((hL.2.1 s).1 (List.mem_of_getElem? hk)).2
  rw [Bool.eq_iff_iff]
  simp only [Bool.not_eq_true', List.any_eq_true]
  constructor
  · rintro ⟨t, ht, hts⟩
    obtain ⟨ht1, ht2⟩ := List.mem_filter.1 ht
    cases hqs : q s
    · rfl
    · have e := ((hq s).1 hqs).2 t ((hq t).1 ht2).1 hts
      subst e
      obtain ⟨i, hi⟩ := List.mem_iff_getElem?.1 ht1
      have hik : i < k := by
        have := (List.getElem?_eq_some_iff.1 hi).1
        simp at this; omega
      rw [List.getElem?_take_of_lt hik] at hi
      have h2 := List.getElem?_eq_some_iff.1 hi
      have h3 := List.getElem?_eq_some_iff.1 hk
      obtain ⟨h2, e2⟩ := h2
      obtain ⟨h3, e3⟩ := h3
      have := List.pairwise_iff_getElem.1 hL.1 i k h2 h3 hik
      rw [e2, e3] at this
      omega
  · intro hqs
    obtain ⟨y, y1, y2, y3⟩ := least_below (p := p) s s (Nat.le_refl _) hps
    have hne : y ≠ s := by
      rintro rfl
      have := (hq y).2 ⟨hps, fun z hz hs => y3 z hz hs⟩
      rw [hqs] at this; cases this
    have hy : y ∈ L := (hL.2.1 y).2 ⟨hn y y1, y1⟩
    obtain ⟨i, hi⟩ := List.mem_iff_getElem?.1 hy
    have hik := asc_get hL.1 hi hk (subB_key y2 hne)
    refine ⟨y, List.mem_filter.2 ⟨List.mem_iff_getElem?.2 ⟨i, by rw [List.getElem?_take_of_lt hik]; exact hi⟩, (hq y).2 ⟨y1, y3⟩⟩, y2⟩

theorem least_end {p : Nat → Bool} (hn : ∀ t, p t = true → t < 1024) {L : List Nat} (hL : IsFind 10 p L) (q : Nat → Bool) (hq : ∀ t, q t = true ↔ (p t = true ∧ ∀ y, p y = true → subB y t = true → y = t)) : IsLeast p (L.filter q) :=
  ⟨hL.1.filter _, fun t => by
    rw [List.mem_filter, hL.2.1 t, hq t]
    constructor
    · rintro ⟨⟨h1, _⟩, h2, h3⟩; exact ⟨h1, h2, h3⟩
    · rintro ⟨h1, h2, h3⟩; exact ⟨⟨h1, h2⟩, h2, h3⟩, Nat.le_trans (List.length_filter_le _ _) hL.2.2⟩

/-- The sets of a list of ints. -/
def pz (z : List Int) (t : Nat) : Bool := decide (t < 1024) && decide ((t : Int) ∈ z)

theorem pz_iff {z : List Int} {t : Nat} : pz z t = true ↔ t < 1024 ∧ (t : Int) ∈ z := by unfold pz; simp

theorem pz_lt {z : List Int} {t : Nat} (h : pz z t = true) : t < 1024 := (pz_iff.1 h).1

/-- Is it a least one? -/
noncomputable def leB (p : Nat → Bool) (t : Nat) : Bool := @decide (p t = true ∧ ∀ y, p y = true → subB y t = true → y = t) (Classical.propDecidable _)

theorem leB_iff (p : Nat → Bool) (t : Nat) : leB p t = true ↔ (p t = true ∧ ∀ y, p y = true → subB y t = true → y = t) := by unfold leB; exact @decide_eq_true_iff _ (Classical.propDecidable _)

set_option maxRecDepth 100000 in
set_option maxHeartbeats 4000000 in
theorem pleast_run (P : Nat → Prop) (v : Value) (z : List Int) (w : World) (hz : z.length ≤ 1000000) (hN : NodesAt P w v z) :
    Calls Tryz.prog 49 #[v] w fun e w' => ∃ v' l, e = .returned v' ∧ w'.ownsRow w.heap.size 3 1 v' l.length ((zs l).map (Value.int .i64)) ∧ IsLeast (pz z) l ∧ Below w.heap.size w w' := by
  obtain ⟨i0, hin, hz0, hz1, hz2⟩ := info_parts infoInt
  obtain ⟨A, c, rfl, hN2⟩ := hN
  have HZ := run_storeCells_new (P := Tryz.prog) w 84 Tryz.zeroCells84 Tryz.zeroCells84 zc_info rfl zc_one
  have hT0 := ThereAt.zero w
  have hb0 := balloc (bref w) (.cells Tryz.zeroCells84 84)
  have H := Lib.hid hN2
  have HT0 := Lib.hid hT0
  have HB0 := Lib.hid hb0
  clear hN2 hT0 hb0
  go_enter Tryz.func49, Tryz.ntmps49
  go_wp2_with fail
  clear HZ
  generalize hg : w.heap.size = g at *
  have HG := Lib.hid hg
  clear hg
  generalize w.alloc (.cells Tryz.zeroCells84 84) = W1 at *
  go_loopw [12] (fun t W => ∃ k : Nat, k ≤ z.length ∧ t = .int .i64 k ∧ Hid (ThereAt W g (pz (z.take k))) ∧ Hid (Below g w W)) (fun t _ => z.length - (intOf t).toNat)
  case atStart => exact ⟨0, by omega, rfl, Lib.hid (HT0.out.congr (fun t ht => by unfold pz; simp)), HB0⟩
  case round =>
    clear HT0 HB0
    obtain ⟨k, hk, rfl, hT, hB⟩ := hrel
    by_cases hlt : k < z.length
    · obtain ⟨b, off, rfl, _, hcc⟩ := H.out k hlt
      have hx0 : z[k]? = some (z.getD k 0) := by rw [List.getD_eq_getElem?_getD, List.getElem?_eq_getElem hlt]; rfl
      have HTK := Lib.hid (show z.take (k + 1) = z.take k ++ [z.getD k 0] by rw [List.take_add_one, hx0]; rfl)
      clear hx0
      generalize z.getD k 0 = x at *
      have hbl : b < w.heap.size := cell_lt hcc
      rw [HG.out] at hbl
      have hc2 := (World.cell?_of_block (a := ⟨b, off + k, none⟩) (hB.out.block b hbl)).trans hcc
      clear hcc
      rcases (show setB x = false ∨ setB x = true by cases setB x <;> simp) with hq | hq
      · have HQ := Lib.hid hq
        have HT2 := Lib.hid (hT.out.congr (q := pz (z.take (k + 1))) (fun t ht => by
          unfold pz
          rw [HTK.out]
          have : ¬ (t : Int) = x := fun e => by
            have h2 : setB x = true := setB_iff.2 ⟨by omega, by omega⟩
            rw [hq] at h2; cases h2
          simp [this]))
        clear hq
        go_wp2_with fail
        refine (setValid_run _ _).mono ?_
        rintro e w2 ⟨rfl, rfl⟩
        rw [HQ.out]
        go_wp2_with fail
        go_roundw
        case rel => exact ⟨k + 1, by omega, by go_num, HT2, hB⟩
        case measure => simp [intOf]; omega
      · have HQ := Lib.hid hq
        obtain ⟨x0, x1⟩ := setB_iff.1 hq
        obtain ⟨s, rfl⟩ := Int.eq_ofNat_of_zero_le x0
        have hs : s < 1024 := by omega
        have HT2 := Lib.hid ((hT.out.set s hs).congr (q := pz (z.take (k + 1))) (fun t ht => by
          unfold pz
          rw [HTK.out, Bool.eq_iff_iff]
          simp only [Bool.and_eq_true, decide_eq_true_iff, Bool.or_eq_true, beq_iff_eq, List.mem_append, List.mem_singleton, Int.natCast_inj]
          by_cases e : t = s <;> simp [e, hs, ht]))
        have hcw := hT.out.cell s hs
        have hcf := hT.out.fr s
        have hsz := hT.out.lt
        have HB2 := Lib.hid (hB.out.setCell (p := ⟨g, s, none⟩) (Nat.le_refl g) (.bool true))
        clear hq
        go_wp2_with fail
        refine (setValid_run _ _).mono ?_
        rintro e w2 ⟨rfl, rfl⟩
        rw [HQ.out]
        go_wp2_with fail
        go_roundw
        case rel => exact ⟨k + 1, by omega, by go_num, HT2, HB2⟩
        case measure => simp [intOf]; omega
    · obtain rfl : k = z.length := by omega
      rw [List.take_length] at hT
      have HQ := Lib.hid (leB_iff (pz z))
      have HPL := Lib.hid (show ∀ t, pz z t = true → t < 1024 from fun t h => pz_lt h)
      generalize leB (pz z) = q at *
      have HE := Lib.hid (fun L hL => least_end (p := pz z) HPL.out (L := L) hL q HQ.out)
      have HST := Lib.hid (fun L hL k s hk => least_step (p := pz z) (n := 10) HPL.out (L := L) hL q HQ.out (k := k) (s := s) hk)
      clear H
      go_wp2_with fail
      refine (findL_run g 10 (by omega) (pz z) _ hT.out).mono ?_
      rintro e W2 ⟨vF, L, rfl, hownF, hF, hbF⟩
      have hNF := NodesAt.of_ownZ hownF
      obtain ⟨A2, c2, hvF⟩ := own_slice hownF
      subst hvF
      have hFlen := hF.2.2
      have HL := Lib.hid (fun k s hk => HST.out L hF k s hk)
      have HE2 := Lib.hid (HE.out L hF)
      have HLT := Lib.hid (fun t (ht : t ∈ L) => ((hF.2.1 t).1 ht).1)
      have hbs1 := hB.out.size
      have hgB : g ≤ wr.heap.size := by have := hB.out.size; rw [HG.out] at this; exact this
      have HB2 := Lib.hid (hB.out.trans (hbF.mono hgB))
      clear hB hF hbF hownF HE HST hT HPL HQ
      generalize hg2 : W2.heap.size = g2 at *
      have HNF := Lib.hid (hNF.both (Q := fun b => b < g2) (fun _ _ _ => rfl) (fun k hk _ => by rw [← hg2]; exact hk))
      have HG2 := Lib.hid hg2
      have hgg : g ≤ g2 := by have := HB2.out.size; rw [HG.out, hg2] at this; exact this
      clear hNF hg2
      go_wp2_with fail
      go_loopw [6, 24] (fun v t W => ∃ (k : Nat) (l : List Nat) (vv : Value), k ≤ L.length ∧ v = vv ∧ t = .int .i64 k ∧ W.ownsRow g2 3 1 vv l.length ((zs l).map (Value.int .i64)) ∧ Hid (l = (L.take k).filter q) ∧ Hid (Below g2 W2 W)) (fun _ t _ => L.length - (intOf t).toNat)
      case atStart => exact ⟨0, [], .slice none 0 0, by omega, rfl, rfl, World.ownsRow_nil _ _ _ _, Lib.hid rfl, Lib.hid (by rw [← HG2.out]; exact bref _)⟩
      case round =>
        obtain ⟨k, l, v, hk, hv, rfl, hown, hl, hB⟩ := hrel
        replace hv := hv.symm
        subst hv
        have hlen : l.length ≤ 1024 := by
          rw [hl.out]
          refine Nat.le_trans (List.length_filter_le _ _) ?_
          simp; omega
        have HOWN := Lib.hid hown
        by_cases hlt : k < L.length
        · obtain ⟨A', c', hv', hN3⟩ := HNF.out
          rw [zs_len] at hv'
          cases hv'
          obtain ⟨b, off, rfl, hPb, hcc⟩ := hN3 k (by rw [zs_len]; exact hlt)
          have hx0 : L[k]? = some (L.getD k 0) := by rw [List.getD_eq_getElem?_getD, List.getElem?_eq_getElem hlt]; rfl
          have HTK := Lib.hid (show L.take (k + 1) = L.take k ++ [L.getD k 0] by rw [List.take_add_one, hx0]; rfl)
          have HLS := Lib.hid (show l.any (fun t => subB t (L.getD k 0)) = !q (L.getD k 0) by rw [hl.out]; exact HL.out k _ hx0)
          have hs := HLT.out _ (List.mem_of_getElem? hx0)
          rw [zs_get] at hcc
          clear hx0 hN3
          generalize L.getD k 0 = x at *
          have hc2 := (World.cell?_of_block (a := ⟨b, off + k, none⟩) (hB.out.block b hPb)).trans hcc
          clear hcc hPb
          have HLM := Lib.hid (show ∀ t ∈ l, t < 1024 from fun t ht => by
            rw [hl.out] at ht
            exact HLT.out t (List.mem_of_mem_take (List.mem_filter.1 ht).1))
          have hbs : g2 ≤ wr.heap.size := by have := hB.out.size; rw [HG2.out] at this; exact this
          have hzl := zs_len l
          have hba := balloc (bref wr) (.cells #[.int .i64 (x : Int)] 3)
          have HBA := Lib.hid (hB.out.alloc hbs (.cells #[.int .i64 (x : Int)] 3))
          have HCX := Lib.hid (cell_of_row _ _ 0 _ _ (0, 0) (heap_alloc_new wr (.cells #[.int .i64 (x : Int)] 3)))
          have HOA := Lib.hid (hown.alloc (.cells #[.int .i64 (x : Int)] 3))
          clear hba hown
          go_wp2_with fail
          refine (containsL2_run (fun b => g2 ≤ b) v l wr.heap.size x _ (NodesAt.of_ownZ HOA.out) HLM.out (by omega) hs HCX.out).mono ?_
          rintro e w2 ⟨rfl, rfl⟩
          rw [HLS.out]
          rcases (show q x = false ∨ q x = true by cases q x <;> simp) with hq | hq
          · have HL2 := Lib.hid (show l = (L.take (k + 1)).filter q by rw [HTK.out, List.filter_append, ← hl.out]; simp [hq])
            have HQ := Lib.hid hq
            clear hq
            rw [HQ.out]
            go_wp2_with fail
            go_roundw
            case rel => exact ⟨k + 1, l, _, by omega, rfl, by go_num, HOA.out, HL2, HBA⟩
            case measure => simp [intOf]; omega
          · have HL2 := Lib.hid (show l ++ [x] = (L.take (k + 1)).filter q by rw [HTK.out, List.filter_append, ← hl.out]; simp [hq])
            have HQ := Lib.hid hq
            clear hq
            rw [HQ.out]
            generalize hW3 : wr.alloc (.cells #[.int .i64 (x : Int)] 3) = W3 at *
            have hsz3 : wr.heap.size ≤ W3.heap.size := by rw [← hW3]; simp
            clear hW3
            have hown := HOA.out
            have hcx := HCX.out
            go_wp2_with (at_builtin; refine wpList_append_own _ rfl _ _ 22 rfl g2 3 i0 (.int .i64 0) 1 8 Tryz.underlying22 hin hz0 hz1 hz2 rfl (by decide) _ _ _ rfl (hown.alloc _) ⟨W3.heap.size, 0, none⟩ 1 1 [.int .i64 (x : Int)] rfl rfl (cell_one_new _ _ _) (fun u hu => by simp at hu; subst hu; rfl) (by unfold maxLen; omega) (by omega) (by simp; omega) ?_; intro v' w1 hown' hgrow hnil)
            have HO := Lib.hid (own_snocZ hown')
            have HB4 := Lib.hid (Below.grown (HBA.out.alloc (by omega) (.cells #[.int .i64 (x : Int)] 3)) hgrow (by simp; omega) (fun j hj => (hown.lt j hj).1))
            clear hown' hgrow hnil hown hcx
            go_roundw
            case rel => exact ⟨k + 1, l ++ [x], _, by omega, rfl, by go_num, HO.out, HL2, HB4⟩
            case measure => simp [intOf]; omega
        · obtain rfl : k = L.length := by omega
          have HR := Lib.hid (show wr.ownsRow g 3 1 v l.length ((zs l).map (Value.int .i64)) ∧ IsLeast (pz z) l ∧ Below g w wr from by
            refine ⟨?_, ?_, ?_⟩
            · obtain ⟨h1, h2⟩ := hown
              refine ⟨h1, ?_⟩
              rcases h2 with h2 | ⟨gg, cap, cur, e1, e2, e3⟩
              · exact .inl h2
              · exact .inr ⟨gg, cap, cur, e1, Nat.le_trans hgg e2, e3⟩
            · have := HE2.out
              rw [hl.out, List.take_length]; exact this
            · exact HB2.out.trans (hB.out.mono hgg))
          obtain ⟨Ar, cr, hvr⟩ := own_slice hown
          subst hvr
          clear hown HOWN
          go_wp2_with fail
          go_ret
          exact ⟨_, l, rfl, by rw [HG.out]; exact HR.out⟩

end Go.Proofs.YtobdnepmjcbjeaaGreat

namespace Go.Proofs.YtobdnepmjcbjeaaGreat
set_option linter.unusedVariables false
set_option linter.unusedSimpArgs false
open Go.RowKit

/-- Is s a quorum? -/
noncomputable def qB (d : Nat) (ms : List Mem) (s : Nat) : Bool := @decide (s ≠ 0 ∧ Sub s (declS ms ms.length) ∧ Closed d ms s) (Classical.propDecidable _)

theorem qB_iff (d : Nat) (ms : List Mem) (s : Nat) : qB d ms s = true ↔ (s ≠ 0 ∧ Sub s (declS ms ms.length) ∧ Closed d ms s) := by unfold qB; exact @decide_eq_true_iff _ (Classical.propDecidable _)

/-- All quorums, ascending. -/
noncomputable def allQ (d : Nat) (ms : List Mem) : List Nat := (List.range (2 ^ ms.length)).filter (qB d ms)

theorem allQ_len (d : Nat) (ms : List Mem) (h : ms.length ≤ 10) : (allQ d ms).length ≤ 1024 := by
  have h10 : 2 ^ ms.length ≤ 2 ^ 10 := Nat.pow_le_pow_right (by omega) h
  unfold allQ
  exact Nat.le_trans (List.length_filter_le _ _) (by simp; omega)

theorem allQ_mem (d : Nat) (ms : List Mem) (t : Nat) : t ∈ allQ d ms ↔ (t < 2 ^ ms.length ∧ qB d ms t = true) := by unfold allQ; rw [List.mem_filter, List.mem_range]

set_option maxRecDepth 100000 in
set_option maxHeartbeats 4000000 in
theorem qall_run (P : Nat → Prop) (ms : List Mem) (v : Value) (w : World) (hl : ms.length ≤ 10) (h : MemsAt P 2 w v ms) (hok : MemsOk ms.length ms) :
    Calls Tryz.prog 52 #[.agg #[v]] w fun e w' => ∃ v', e = .returned (.tuple #[v', .int .i64 0]) ∧ w'.ownsRow w.heap.size 3 1 v' (allQ 2 ms).length ((zs (allQ 2 ms)).map (Value.int .i64)) ∧ Below w.heap.size w w' := by
  obtain ⟨i0, hin, hz0, hz1, hz2⟩ := info_parts infoInt
  obtain ⟨A, c, rfl⟩ := h.slice
  have hb1 : Below w.heap.size w (w.alloc (.cells #[.slice A ms.length c] 27)) := balloc (bref w) _
  have k0 : (w.alloc (.cells #[.slice A ms.length c] 27)).heap[w.heap.size]? = some (.cells #[.slice A ms.length c] 27 (0, 0)) := alloc_at rfl
  have hp := pow11 ms.length (by omega)
  have h10 : 2 ^ ms.length ≤ 2 ^ 10 := Nat.pow_le_pow_right (by omega) hl
  have HQA := Lib.hid (show allQ 2 ms = (List.range (2 ^ ms.length)).filter (qB 2 ms) from rfl)
  have HQI := Lib.hid (qB_iff 2 ms)
  generalize qB 2 ms = q at *
  generalize allQ 2 ms = aq at *
  obtain ⟨N, hN⟩ : ∃ N, 2 ^ ms.length = N := ⟨_, rfl⟩
  rw [hN] at hp h10 HQA
  clear hN
  have hn0 : (0 : Int) ≤ (ms.length : Int) := by omega
  have hn64 : ¬ (64 : Int) ≤ (ms.length : Int) := by omega
  have H := Lib.hid (h.below hb1)
  have HB := Lib.hid hb1
  have K0 := Lib.hid k0
  have HOK := Lib.hid hok
  clear h hb1 k0 hok
  go_enter Tryz.func52, Tryz.ntmps52
  go_upto_region 1 with fail
  generalize w.alloc (.cells #[.slice A ms.length c] 27) = W1 at *
  generalize hg : w.heap.size = g at *
  have HG := Lib.hid hg
  clear hg
  have c0 : W1.cell? ⟨g, 0, none⟩ = some (.slice A ms.length c) := cell_of_row _ _ 0 _ _ (0, 0) K0.out
  have hgl := cell_lt c0
  go_wp2_with fail
  refine (cvalid_run P ms _ _ hl H.out HOK.out).mono ?_
  rintro e W2 ⟨rfl, hb2⟩
  have HB2 := Lib.hid hb2
  have d0 := (hb2.cell hgl).trans c0
  have HM2 := Lib.hid (H.out.below hb2)
  have hgl2 := cell_lt d0
  clear hb2 c0
  go_wp2_with fail
  rw [hp]
  go_loopw [5, 16] (fun v t W => ∃ (k : Nat) (l : List Nat) (vv : Value), k ≤ N ∧ v = vv ∧ t = .int .i64 k ∧ W.ownsRow W2.heap.size 3 1 vv l.length ((zs l).map (Value.int .i64)) ∧ Hid (l = (List.range k).filter q) ∧ Hid (Below W2.heap.size W2 W)) (fun _ t _ => N - (intOf t).toNat)
  case atStart => exact ⟨0, [], .slice none 0 0, by omega, rfl, rfl, World.ownsRow_nil _ _ _ _, Lib.hid rfl, Lib.hid (bref _)⟩
  case round =>
    obtain ⟨k, l, v, hk, hv, rfl, hown, hL, hB⟩ := hrel
    replace hv := hv.symm
    subst hv
    have hlen : l.length ≤ k := by rw [hL.out]; exact Nat.le_trans (List.length_filter_le _ _) (by simp)
    have HOWN := Lib.hid hown
    have hbs := hB.out.size
    by_cases hlt : k < N
    · have e0 := (hB.out.cell hgl2).trans d0
      have HMk := Lib.hid (HM2.out.below hB.out)
      clear hown
      go_wp2_with fail
      refine (quorum_run P 2 ms _ k _ hl (by omega) HMk.out).mono ?_
      rintro e W5 ⟨b, rfl, hb, hb5⟩
      have HB5 := Lib.hid (bstep hB.out hb5)
      have HO5 := Lib.hid (own_keepG HOWN.out (fun j _ _ hl => hb5.block j hl))
      rcases (show b = false ∨ b = true by cases b <;> simp) with rfl | rfl
      · have hqk : q k = false := by
          cases hq : q k
          · rfl
          · exact absurd (hb.2 ((HQI.out k).1 hq)) (by simp)
        have HL2 := Lib.hid (show l = (List.range (k + 1)).filter q by rw [List.range_succ, List.filter_append, ← hL.out]; simp [hqk])
        clear hb hqk hb5
        go_wp2_with fail
        go_roundw
        case rel => exact ⟨k + 1, l, _, by omega, rfl, by go_num, HO5.out, HL2, HB5⟩
        case measure => simp [intOf]; omega
      · have hqk : q k = true := (HQI.out k).2 (hb.1 rfl)
        have HL2 := Lib.hid (show l ++ [k] = (List.range (k + 1)).filter q by rw [List.range_succ, List.filter_append, ← hL.out]; simp [hqk])
        have hown := HO5.out
        have hsz5 := hb5.size
        have hzl := zs_len l
        clear hb hqk hb5
        go_wp2_with (at_builtin; refine wpList_append_own _ rfl _ _ 22 rfl W2.heap.size 3 i0 (.int .i64 0) 1 8 Tryz.underlying22 hin hz0 hz1 hz2 rfl (by decide) _ _ _ rfl (hown.alloc _) ⟨W5.heap.size, 0, none⟩ 1 1 [.int .i64 (k : Int)] rfl rfl (cell_one_new _ _ _) (fun u hu => by simp at hu; subst hu; rfl) (by unfold maxLen; omega) (by omega) (by simp; omega) ?_; intro v' w1 hown' hgrow hnil)
        have HO := Lib.hid (own_snocZ hown')
        have HB6 := Lib.hid (Below.grown (balloc HB5.out (.cells #[.int .i64 (k : Int)] 3)) hgrow (by simp; omega) (fun j hj => (hown.lt j hj).1))
        clear hown' hgrow hnil hown
        go_roundw
        case rel => exact ⟨k + 1, l ++ [k], _, by omega, rfl, by go_num, HO.out, HL2, HB6⟩
        case measure => simp [intOf]; omega
    · obtain rfl : k = N := by omega
      have hla : l = aq := by rw [hL.out, HQA.out]
      subst hla
      have hg2 : g ≤ W2.heap.size := by omega
      have HR := Lib.hid (show wr.ownsRow g 3 1 v l.length ((zs l).map (Value.int .i64)) ∧ Below g w wr from by
        refine ⟨?_, ?_⟩
        · obtain ⟨h1, h2⟩ := hown
          refine ⟨h1, ?_⟩
          rcases h2 with h2 | ⟨gg, cap, cur, e1, e2, e3⟩
          · exact .inl h2
          · exact .inr ⟨gg, cap, cur, e1, Nat.le_trans hg2 e2, e3⟩
        · have h0 := HB.out
          rw [← HG.out] at h0
          have h1 := bstep (bstep h0 HB2.out) hB.out
          rwa [HG.out] at h1)
      obtain ⟨Ar, cr, hvr⟩ := own_slice hown
      subst hvr
      clear hown HOWN
      go_wp2_with fail
      go_ret2
      exact ⟨_, rfl, by rw [HG.out]; exact HR.out⟩

set_option maxHeartbeats 2000000 in
theorem qmin_run (P : Nat → Prop) (ms : List Mem) (v : Value) (w : World) (hl : ms.length ≤ 10) (h : MemsAt P 2 w v ms) (hok : MemsOk ms.length ms) :
    Calls Tryz.prog 27 #[.agg #[v]] w fun e w' => ∃ v' l, e = .returned (.tuple #[v', .int .i64 0]) ∧ w'.ownsRow w.heap.size 3 1 v' l.length ((zs l).map (Value.int .i64)) ∧ IsLeast (pz (zs (allQ 2 ms))) l ∧ Below w.heap.size w w' := by
  obtain ⟨A, c, rfl⟩ := h.slice
  have hb1 : Below w.heap.size w (w.alloc (.cells #[.slice A ms.length c] 27)) := balloc (bref w) _
  have k0 : (w.alloc (.cells #[.slice A ms.length c] 27)).heap[w.heap.size]? = some (.cells #[.slice A ms.length c] 27 (0, 0)) := alloc_at rfl
  have H := Lib.hid (h.below hb1)
  have HB := Lib.hid hb1
  have K0 := Lib.hid k0
  have HAL := Lib.hid (allQ_len 2 ms hl)
  have HQR := Lib.hid (fun W (hm : MemsAt P 2 W (.slice A ms.length c) ms) => qall_run P ms _ W hl hm hok)
  clear h hb1 k0 hok
  generalize allQ 2 ms = aq at *
  go_enter Tryz.func27, Tryz.ntmps27
  go_upto_region 1 with fail
  generalize w.alloc (.cells #[.slice A ms.length c] 27) = W1 at *
  have c0 : W1.cell? ⟨w.heap.size, 0, none⟩ = some (.slice A ms.length c) := cell_of_row _ _ 0 _ _ (0, 0) K0.out
  go_wp2_with fail
  refine (HQR.out _ H.out).mono ?_
  rintro e W2 ⟨v2, rfl, ho2, hb2⟩
  have HN := Lib.hid (NodesAt.of_ownZ ho2)
  have HB2 := Lib.hid (bstep HB.out hb2)
  obtain ⟨A2, c2, hv2⟩ := own_slice ho2
  subst hv2
  clear ho2 hb2 c0
  go_wp2_with fail
  refine (pleast_run _ _ (zs aq) _ (by rw [zs_len]; have := HAL.out; omega) HN.out).mono ?_
  rintro e W3 ⟨v3, l, rfl, ho3, hl3, hb3⟩
  have HF := Lib.hid (show W3.ownsRow w.heap.size 3 1 v3 l.length ((zs l).map (Value.int .i64)) ∧ IsLeast (pz (zs aq)) l ∧ Below w.heap.size w W3 from
    ⟨⟨ho3.1, by
      rcases ho3.2 with h2 | ⟨gg, cap, cur, e1, e2, e3⟩
      · exact .inl h2
      · exact .inr ⟨gg, cap, cur, e1, Nat.le_trans HB2.out.size e2, e3⟩⟩, hl3, bstep HB2.out hb3⟩)
  obtain ⟨A3, c3, hv3⟩ := own_slice ho3
  subst hv3
  clear ho3 hl3 hb3
  go_wp2_with fail
  go_ret2
  exact ⟨_, l, rfl, HF.out⟩

end Go.Proofs.YtobdnepmjcbjeaaGreat

namespace Go.Proofs.YtobdnepmjcbjeaaGreat
set_option linter.unusedVariables false
set_option linter.unusedSimpArgs false
open Go.RowKit

/-- The sets below 2^n of which p holds, in order. -/
def IsFound (n : Nat) (p : Nat → Bool) (l : List Nat) : Prop := Asc l ∧ (∀ t, t ∈ l ↔ (t < 2 ^ n ∧ p t = true)) ∧ l.length ≤ 1024

set_option maxRecDepth 100000 in
set_option maxHeartbeats 4000000 in
theorem findG_run (G tb n : Nat) (hn : n ≤ 10) (p : Nat → Bool) (w : World) (eg : ∀ args w, (callFunc G args).run Tryz.prog w = .ok (.enter G args) w)
    (hcl : ∀ k : Nat, k < 2 ^ n → ∀ W, Below w.heap.size w W → Calls Tryz.prog G #[.int .i64 (k : Int), .pointer (some ⟨tb, 0, none⟩)] W fun e w' => e = .returned (.bool (p k)) ∧ Below W.heap.size W w') :
    Calls Tryz.prog 55 #[.int .i64 (n : Int), .func (.func G) #[] #[.pointer (some ⟨tb, 0, none⟩)]] w fun e w' => ∃ v l, e = .returned v ∧ w'.ownsRow w.heap.size 3 1 v l.length ((zs l).map (Value.int .i64)) ∧ IsFound n p l ∧ Below w.heap.size w w' := by
  obtain ⟨i0, hin, hz0, hz1, hz2⟩ := info_parts infoInt
  have hp := pow11 n (by omega)
  have h10 : 2 ^ n ≤ 2 ^ 10 := Nat.pow_le_pow_right (by omega) hn
  have HF := Lib.hid (show ∀ l, IsFound n p l ↔ (Asc l ∧ (∀ t, t ∈ l ↔ (t < 2 ^ n ∧ p t = true)) ∧ l.length ≤ 1024) from fun _ => Iff.rfl)
  have hn0 : (0 : Int) ≤ (n : Int) := by omega
  have hn64 : ¬ (64 : Int) ≤ (n : Int) := by omega
  obtain ⟨N, hN⟩ : ∃ N, 2 ^ n = N := ⟨_, rfl⟩
  rw [hN] at hp h10 HF hcl
  clear hN
  have HCL := Lib.hid hcl
  clear hcl
  go_enter Tryz.func55, Tryz.ntmps55
  go_wp2_with fail
  go_loopw [5, 9] (fun v t W => ∃ (k : Nat) (l : List Nat) (vv : Value), k ≤ N ∧ v = vv ∧ t = .int .i64 k ∧ W.ownsRow w.heap.size 3 1 vv l.length ((zs l).map (Value.int .i64)) ∧ Hid (l = (List.range k).filter p) ∧ Hid (Below w.heap.size w W)) (fun _ t _ => N - (intOf t).toNat)
  case atStart => exact ⟨0, [], .slice none 0 0, by omega, rfl, rfl, World.ownsRow_nil _ _ _ _, Lib.hid rfl, Lib.hid (bref _)⟩
  case round =>
    obtain ⟨k, l, v, hk, hv, rfl, hown, hL, hB⟩ := hrel
    replace hv := hv.symm
    subst hv
    have hlen : l.length ≤ k := by rw [hL.out]; exact Nat.le_trans (List.length_filter_le _ _) (by simp)
    have HOWN := Lib.hid hown
    by_cases hlt : k < N
    · have hownk := hown
      clear hown
      go_wp2_with fail
      refine (HCL.out k hlt _ hB.out).mono ?_
      rintro e W5 ⟨rfl, hb5⟩
      have HB5 := Lib.hid (bstep hB.out hb5)
      have HO5 := Lib.hid (show W5.ownsRow w.heap.size 3 1 v l.length ((zs l).map (Value.int .i64)) from by
        refine ⟨hownk.1, ?_⟩
        rcases hownk.2 with h2 | ⟨gg, cap, cur, e1, e2, e3, e4⟩
        · exact .inl h2
        · exact .inr ⟨gg, cap, cur, e1, e2, (hb5.block gg (Array.getElem?_eq_some_iff.1 e3).1).trans e3, e4⟩)
      have hs5 := hb5.size
      have hs0 := hB.out.size
      clear hb5 hownk
      rcases (show p k = false ∨ p k = true by cases p k <;> simp) with hpk | hpk
      · have HL2 := Lib.hid (show l = (List.range (k + 1)).filter p by rw [List.range_succ, List.filter_append, ← hL.out]; simp [hpk])
        have HP := Lib.hid hpk
        clear hpk
        rw [HP.out]
        go_wp2_with fail
        go_roundw
        case rel => exact ⟨k + 1, l, _, by omega, rfl, by go_num, HO5.out, HL2, HB5⟩
        case measure => simp [intOf]; omega
      · have HL2 := Lib.hid (show l ++ [k] = (List.range (k + 1)).filter p by rw [List.range_succ, List.filter_append, ← hL.out]; simp [hpk])
        have HP := Lib.hid hpk
        have hzl := zs_len l
        have hown := HO5.out
        clear hpk
        rw [HP.out]
        go_wp2_with (at_builtin; refine wpList_append_own _ rfl _ _ 22 rfl w.heap.size 3 i0 (.int .i64 0) 1 8 Tryz.underlying22 hin hz0 hz1 hz2 rfl (by decide) _ _ _ rfl (hown.alloc _) ⟨W5.heap.size, 0, none⟩ 1 1 [.int .i64 (k : Int)] rfl rfl (cell_one_new _ _ _) (fun u hu => by simp at hu; subst hu; rfl) (by unfold maxLen; omega) (by omega) (by simp; omega) ?_; intro v' w1 hown' hgrow hnil)
        have HO := Lib.hid (own_snocZ hown')
        have HB4 := Lib.hid (Below.grown (balloc HB5.out (.cells #[.int .i64 (k : Int)] 3)) hgrow (by simp; omega) (fun j hj => (hown.lt j hj).1))
        clear hown' hgrow hnil hown
        go_roundw
        case rel => exact ⟨k + 1, l ++ [k], _, by omega, rfl, by go_num, HO.out, HL2, HB4⟩
        case measure => simp [intOf]; omega
    · obtain rfl : k = N := by omega
      have hmem : ∀ t ∈ l, t < 1024 := fun t ht => by
        rw [hL.out] at ht
        have := List.mem_range.1 (List.mem_filter.1 ht).1
        omega
      have hnd : l.Nodup := by rw [hL.out]; exact List.nodup_iff_pairwise_ne.2 ((List.nodup_iff_pairwise_ne.1 List.nodup_range).filter _)
      have HS := Lib.hid (fun W => sortN_run l hmem hnd v w.heap.size W (by omega))
      have HLT := Lib.hid (fun j hj => (hown.lt j hj).1)
      obtain ⟨A, c, hv⟩ := own_slice hown
      clear hown hmem hnd
      subst hv
      go_wp2_with fail
      refine (HS.out _ HOWN.out).mono ?_
      rintro e w2 ⟨rfl, m, hpm, hasc, hml, hown2, hg2⟩
      have HR := Lib.hid (show w2.ownsRow w.heap.size 3 1 (.slice A l.length c) m.length ((zs m).map (Value.int .i64)) ∧ IsFound n p m ∧ Below w.heap.size w w2 from
        ⟨by rw [hml]; exact hown2, (HF.out m).2 ⟨hasc, fun t => by rw [hpm.mem_iff, hL.out, List.mem_filter, List.mem_range], by omega⟩, Below.grown hB.out hg2 hB.out.size (fun j hj => HLT.out j hj)⟩)
      clear hown2 hg2 hpm hasc hml
      go_wp2_with fail
      go_ret
      exact ⟨_, m, rfl, HR.out⟩

end Go.Proofs.YtobdnepmjcbjeaaGreat

namespace Go.Proofs.YtobdnepmjcbjeaaGreat
set_option linter.unusedVariables false
set_option linter.unusedSimpArgs false
open Go.RowKit

theorem mAt {w : World} {o : Obj} {k : Nat} (h : w.heap.size = k) : (w.alloc o).heap[k]? = some o := by rw [← h]; exact heap_alloc_new _ _

theorem mOn {w : World} {o v : Obj} {k : Nat} (h : w.heap[k]? = some v) : (w.alloc o).heap[k]? = some v := by
  have hl : k < w.heap.size := by
    rcases Nat.lt_or_ge k w.heap.size with h1 | h1
    · exact h1
    · rw [Array.getElem?_eq_none h1] at h; cases h
  exact (heap_alloc_old _ _ hl).trans h

theorem mSz (w : World) (o : Obj) : (w.alloc o).heap.size = w.heap.size + 1 := by simp

set_option maxHeartbeats 1000000 in
theorem indexG_run (G tb : Nat) (p : Nat → Bool) (P : Nat → Prop) (v : Value) (ls : List Nat) (w : World) (eg : ∀ args w, (callFunc G args).run Tryz.prog w = .ok (.enter G args) w) (hlen : ls.length ≤ 100000) (hN : NodesAt P w v (zs ls))
    (hcl : ∀ x : Nat, x ∈ ls → ∀ W, Below w.heap.size w W → Calls Tryz.prog G #[.int .i64 (x : Int), .pointer (some ⟨tb, 0, none⟩)] W fun e w' => e = .returned (.bool (p x)) ∧ Below W.heap.size W w') :
    Calls Tryz.prog 77 #[v, .func (.func G) #[] #[.pointer (some ⟨tb, 0, none⟩)]] w fun e w' => (∃ i : Int, e = .returned (.int .i64 i) ∧ decide (0 ≤ i) = ls.any p) ∧ Below w.heap.size w w' := by
  obtain ⟨A, c, rfl, hN2⟩ := hN
  rw [zs_len] at hN2 ⊢
  have H := Lib.hid hN2
  have HCL := Lib.hid hcl
  clear hN2 hcl
  go_enter Tryz.func77, Tryz.ntmps77
  go_wp2_with fail
  go_loopw [8] (fun t W => ∃ k : Nat, k ≤ ls.length ∧ t = .int .i64 k ∧ Hid ((ls.take k).any p = false) ∧ Hid (Below w.heap.size w W)) (fun t _ => ls.length - (intOf t).toNat)
  case atStart => exact ⟨0, Nat.zero_le _, rfl, Lib.hid rfl, Lib.hid (bref _)⟩
  case round =>
    obtain ⟨k, hk, rfl, hA, hB⟩ := hrel
    by_cases hlt : k < ls.length
    · obtain ⟨b, off, rfl, hPb, hcc⟩ := H.out k hlt
      have hx0 : ls[k]? = some (ls.getD k 0) := by rw [List.getD_eq_getElem?_getD, List.getElem?_eq_getElem hlt]; rfl
      have hxm := List.mem_of_getElem? hx0
      rw [zs_get] at hcc
      have hc2 := (World.cell?_of_block (a := ⟨b, off + k, none⟩) (hB.out.block b (cell_lt hcc))).trans hcc
      have HTK := Lib.hid (show ls.take (k + 1) = ls.take k ++ [ls.getD k 0] by rw [List.take_add_one, hx0]; rfl)
      clear hx0 hPb hcc
      generalize ls.getD k 0 = x at *
      have HX := Lib.hid hxm
      clear hxm
      go_wp2_with fail
      refine (HCL.out x HX.out _ hB.out).mono ?_
      rintro e W5 ⟨rfl, hb5⟩
      have HB5 := Lib.hid (bstep hB.out hb5)
      clear hb5
      rcases (show p x = false ∨ p x = true by cases p x <;> simp) with hq | hq
      · have HQ := Lib.hid hq
        have HA2 := Lib.hid (show (ls.take (k + 1)).any p = false by rw [HTK.out, List.any_append, hA.out]; simp [hq])
        clear hq
        rw [HQ.out]
        go_wp2_with fail
        go_roundw
        case rel => exact ⟨k + 1, hlt, by go_num, HA2, HB5⟩
        case measure => simp [intOf]; omega
      · have HQ := Lib.hid hq
        have HA2 := Lib.hid (show ls.any p = true from List.any_eq_true.2 ⟨x, HX.out, hq⟩)
        clear hq
        rw [HQ.out]
        go_wp2_with fail
        go_ret
        exact ⟨⟨_, rfl, by rw [HA2.out]; exact decide_eq_true (by omega)⟩, HB5.out⟩
    · obtain rfl : k = ls.length := by omega
      have HA2 := Lib.hid (show ls.any p = false by have := hA.out; rwa [List.take_length] at this)
      go_wp2_with fail
      go_ret
      exact ⟨⟨_, rfl, by rw [HA2.out]; rfl⟩, hB.out⟩

set_option maxHeartbeats 1000000 in
theorem containsG_run (G tb : Nat) (p : Nat → Bool) (P : Nat → Prop) (v : Value) (ls : List Nat) (w : World) (eg : ∀ args w, (callFunc G args).run Tryz.prog w = .ok (.enter G args) w) (hlen : ls.length ≤ 100000) (hN : NodesAt P w v (zs ls))
    (hcl : ∀ x : Nat, x ∈ ls → ∀ W, Below w.heap.size w W → Calls Tryz.prog G #[.int .i64 (x : Int), .pointer (some ⟨tb, 0, none⟩)] W fun e w' => e = .returned (.bool (p x)) ∧ Below W.heap.size W w') :
    Calls Tryz.prog 53 #[v, .func (.func G) #[] #[.pointer (some ⟨tb, 0, none⟩)]] w fun e w' => e = .returned (.bool (ls.any p)) ∧ Below w.heap.size w w' := by
  have hN0 := hN
  obtain ⟨A, c, rfl, _⟩ := hN0
  have HI := Lib.hid (indexG_run G tb p P _ ls w eg hlen hN hcl)
  clear hN hcl
  go_enter Tryz.func53, Tryz.ntmps53
  go_wp2_with fail
  refine HI.out.mono ?_
  rintro e w2 ⟨⟨i, rfl, hi⟩, hb⟩
  have HQ := Lib.hid hi
  have HB := Lib.hid hb
  clear hi hb
  go_wp2_with fail
  go_ret
  exact ⟨by rw [← HQ.out]; rfl, HB.out⟩

set_option maxHeartbeats 1000000 in
theorem meet1_run (t n : Nat) (nb : Nat) (hn : n ≤ 10) (ht : t < 2 ^ n) (w : World) (h : w.cell? ⟨nb, 0, none⟩ = some (.int .i64 (n : Int))) :
    Calls Tryz.prog 54 #[.int .i64 (t : Int), .pointer (some ⟨nb, 0, none⟩)] w fun e w' => e = .returned (.bool false) ∧ Below w.heap.size w w' := by
  have hp := pow11 n (by omega)
  obtain ⟨N, hN⟩ : ∃ N, 2 ^ n = N := ⟨_, rfl⟩
  rw [hN] at hp ht
  clear hN
  have hn0 : (0 : Int) ≤ (n : Int) := by omega
  have hn64 : ¬ (64 : Int) ≤ (n : Int) := by omega
  have q1 : ¬ (t : Int) < 0 := by omega
  have q2 : ¬ (N : Int) ≤ (t : Int) := by omega
  go_enter Tryz.func54, Tryz.ntmps54
  go_wp2_with fail
  go_ret
  exact ⟨rfl, bref _⟩

set_option maxHeartbeats 1000000 in
theorem meet21_run (t s : Nat) (sb : Nat) (ht : t < 1024) (hs : s < 1024) (w : World) (h : w.cell? ⟨sb, 0, none⟩ = some (.int .i64 (s : Int))) :
    Calls Tryz.prog 57 #[.int .i64 (t : Int), .pointer (some ⟨sb, 0, none⟩)] w fun e w' => e = .returned (.bool (s &&& t == 0)) ∧ Below w.heap.size w w' := by
  have q1 := i64_and_nat s t (by omega) (by omega)
  have HQ := Lib.hid (show (((s &&& t : Nat) : Int) == 0) = (s &&& t == 0) from by
    rw [Bool.eq_iff_iff]; simp only [beq_iff_eq]; omega)
  go_enter Tryz.func57, Tryz.ntmps57
  go_wp2_with fail
  go_ret
  exact ⟨by rw [← HQ.out]; rfl, bref _⟩

theorem enters_m21 : ∀ args w, (callFunc 57 args).run Tryz.prog w = .ok (.enter 57 args) w := enters_of Tryz.func57 (by kernel_rfl) rfl

theorem enters_m2 : ∀ args w, (callFunc 56 args).run Tryz.prog w = .ok (.enter 56 args) w := enters_of Tryz.func56 (by kernel_rfl) rfl

theorem enters_m1 : ∀ args w, (callFunc 54 args).run Tryz.prog w = .ok (.enter 54 args) w := enters_of Tryz.func54 (by kernel_rfl) rfl

set_option maxHeartbeats 1000000 in
theorem meet2_run (P : Nat → Prop) (A : Option Addr) (n c : Nat) (ls : List Nat) (lb s : Nat) (hl : ∀ t ∈ ls, t < 1024) (hlen : ls.length ≤ 1024) (hs : s < 1024) (w : World) (h : w.cell? ⟨lb, 0, none⟩ = some (.slice A n c)) (hN : NodesAt P w (.slice A n c) (zs ls)) :
    Calls Tryz.prog 56 #[.int .i64 (s : Int), .pointer (some ⟨lb, 0, none⟩)] w fun e w' => e = .returned (.bool (!ls.any (fun t => s &&& t == 0))) ∧ Below w.heap.size w w' := by
  have hba := balloc (bref w) (.cells #[.int .i64 (s : Int)] 3)
  have hcs : (w.alloc (.cells #[.int .i64 (s : Int)] 3)).cell? ⟨w.heap.size, 0, none⟩ = some (.int .i64 (s : Int)) := cell_of_row _ _ 0 _ _ (0, 0) (heap_alloc_new _ _)
  have hcl := (hba.cell (cell_lt h)).trans h
  have HC := Lib.hid (containsG_run 57 w.heap.size (fun t => s &&& t == 0) P (.slice A n c) ls (w.alloc (.cells #[.int .i64 (s : Int)] 3)) enters_m21 (by omega) (hN.below hba) (fun x hx W hB => meet21_run x s w.heap.size (hl x hx) hs W ((hB.cell (cell_lt hcs)).trans hcs)))
  have HBA := Lib.hid hba
  clear hN hl hcs
  go_enter Tryz.func56, Tryz.ntmps56
  go_wp2_with fail
  refine HC.out.mono ?_
  rintro e w2 ⟨rfl, hb⟩
  have HB := Lib.hid (bstep HBA.out hb)
  clear hb
  go_wp2_with fail
  go_ret
  exact ⟨rfl, HB.out⟩

/-- Does s meet all sets of the list, and has only nodes below n? -/
def meetB (n : Nat) (ls : List Nat) (s : Nat) : Bool := decide (s < 2 ^ n) && !ls.any (fun t => s &&& t == 0)

set_option maxRecDepth 100000 in
set_option maxHeartbeats 4000000 in
theorem pmeeting_run (P : Nat → Prop) (v : Value) (ls : List Nat) (n : Nat) (hn : n ≤ 10) (hl : ∀ t ∈ ls, t < 2 ^ n) (hlen : ls.length ≤ 1024) (w : World) (hN : NodesAt P w v (zs ls)) :
    Calls Tryz.prog 28 #[v, .int .i64 (n : Int)] w fun e w' => ∃ v' m, e = .returned (.tuple #[v', .int .i64 0]) ∧ w'.ownsRow w.heap.size 3 1 v' m.length ((zs m).map (Value.int .i64)) ∧ IsLeast (meetB n ls) m ∧ Below w.heap.size w w' := by
  have h10 : 2 ^ n ≤ 2 ^ 10 := Nat.pow_le_pow_right (by omega) hn
  have hl10 : ∀ t ∈ ls, t < 1024 := fun t ht => Nat.lt_of_lt_of_le (hl t ht) h10
  obtain ⟨A, c, rfl, _⟩ := id hN
  rw [zs_len]
  obtain ⟨L, hL⟩ : ∃ L, ls.length = L := ⟨_, rfl⟩
  have HN0 := Lib.hid (show NodesAt P w (.slice A L c) (zs ls) by rw [← hL, ← zs_len ls]; exact hN)
  have hL10 : L ≤ 1024 := by omega
  rw [hL]
  have hb2 := balloc (balloc (bref w) (.cells #[.slice A L c] 22)) (.cells #[.int .i64 (n : Int)] 3)
  have k1 : ((w.alloc (.cells #[.slice A L c] 22)).alloc (.cells #[.int .i64 (n : Int)] 3)).cell? ⟨w.heap.size, 0, none⟩ = some (.slice A L c) := cell_of_row _ _ 0 _ _ (0, 0) (mOn (mAt rfl))
  have k2 : ((w.alloc (.cells #[.slice A L c] 22)).alloc (.cells #[.int .i64 (n : Int)] 3)).cell? ⟨w.heap.size + 1, 0, none⟩ = some (.int .i64 (n : Int)) := cell_of_row _ _ 0 _ _ (0, 0) (mAt (mSz _ _))
  have HN2 := Lib.hid (HN0.out.below hb2)
  have HB2 := Lib.hid hb2
  have HL := Lib.hid hL
  have HLN := Lib.hid hl
  have HL10 := Lib.hid hl10
  clear hN hb2 hL hl hl10 HN0
  go_enter Tryz.func28, Tryz.ntmps28
  go_upto_region 1 with fail
  generalize (w.alloc (.cells #[.slice A L c] 22)).alloc (.cells #[.int .i64 (n : Int)] 3) = W1 at *
  generalize hg : w.heap.size = g at *
  have HG := Lib.hid hg
  clear hg
  have q1 : ¬ (n : Int) < 0 := by omega
  have q2 : ¬ (10 : Int) < (n : Int) := by omega
  go_wp2_with fail
  refine (containsG_run 54 (g + 1) (fun _ => false) P _ ls _ enters_m1 (by have := HL.out; omega) HN2.out (fun x hx W hB => meet1_run x n (g + 1) hn (HLN.out x hx) W ((hB.cell (cell_lt k2)).trans k2))).mono ?_
  rintro e W3 ⟨rfl, hb3⟩
  rw [show ls.any (fun _ => false) = false by simp]
  have j1 := (hb3.cell (cell_lt k1)).trans k1
  have j2 := (hb3.cell (cell_lt k2)).trans k2
  have HN3 := Lib.hid (HN2.out.below hb3)
  have HB3 := Lib.hid hb3
  have q3 : ¬ (1024 : Int) < (L : Int) := by omega
  clear hb3 k1 k2 HN2
  go_wp2_with fail
  refine (findG_run 56 g n hn (fun s => !ls.any (fun t => s &&& t == 0)) _ enters_m2 (fun s hs W hB => meet2_run P A L c ls g s HL10.out (by have := HL.out; omega) (Nat.lt_of_lt_of_le hs h10) W ((hB.cell (cell_lt j1)).trans j1) (HN3.out.below hB))).mono ?_
  rintro e W4 ⟨vf, F, rfl, hof, hF, hb4⟩
  have HN4 := Lib.hid (NodesAt.of_ownZ hof)
  have HFL := Lib.hid hF.2.2
  have HFE := Lib.hid (show pz (zs F) = meetB n ls from by
    funext t
    rw [Bool.eq_iff_iff, pz_iff]
    unfold zs meetB
    rw [List.mem_map, Bool.and_eq_true, decide_eq_true_iff]
    constructor
    · rintro ⟨_, x, hx, e⟩
      obtain rfl := Int.ofNat.inj e
      exact (hF.2.1 x).1 hx
    · intro h
      exact ⟨by omega, t, (hF.2.1 t).2 h, rfl⟩)
  have HB4 := Lib.hid hb4
  obtain ⟨Af, cf, hvf⟩ := own_slice hof
  subst hvf
  clear hof hF hb4 j1 j2 HN3
  go_wp2_with fail
  refine (pleast_run _ _ (zs F) _ (by rw [zs_len]; have := HFL.out; omega) HN4.out).mono ?_
  rintro e W5 ⟨v5, m, rfl, ho5, hm5, hb5⟩
  rw [HFE.out] at hm5
  have HR := Lib.hid (show W5.ownsRow w.heap.size 3 1 v5 m.length ((zs m).map (Value.int .i64)) ∧ IsLeast (meetB n ls) m ∧ Below w.heap.size w W5 from by
    have h0 := HB2.out
    rw [← HG.out] at h0
    have h1 := bstep (bstep h0 HB3.out) HB4.out
    refine ⟨⟨ho5.1, ?_⟩, hm5, bstep h1 hb5⟩
    rcases ho5.2 with h2 | ⟨gg, cap, cur, e1, e2, e3⟩
    · exact .inl h2
    · exact .inr ⟨gg, cap, cur, e1, Nat.le_trans h1.size e2, e3⟩)
  obtain ⟨A5, c5, hv5⟩ := own_slice ho5
  subst hv5
  clear ho5 hm5 hb5
  go_wp2_with fail
  go_ret2
  exact ⟨_, m, rfl, by rw [← HG.out]; exact HR.out⟩

end Go.Proofs.YtobdnepmjcbjeaaGreat

namespace Go.Proofs.YtobdnepmjcbjeaaGreat
set_option linter.unusedVariables false
set_option linter.unusedSimpArgs false
open Go.RowKit

noncomputable def spB (ms : List Mem) (s : Nat) : Bool := @decide (Spl ms s) (Classical.propDecidable _)
theorem spB_iff (ms : List Mem) (s : Nat) : spB ms s = true ↔ Spl ms s := by unfold spB; exact @decide_eq_true_iff _ (Classical.propDecidable _)
/-- All sets that split, ascending. -/
noncomputable def allS (ms : List Mem) : List Nat := (List.range (2 ^ ms.length)).filter (spB ms)
theorem allS_len (ms : List Mem) (h : ms.length ≤ 10) : (allS ms).length ≤ 1024 := by
  have h10 : 2 ^ ms.length ≤ 2 ^ 10 := Nat.pow_le_pow_right (by omega) h
  unfold allS
  exact Nat.le_trans (List.length_filter_le _ _) (by simp; omega)
theorem allS_mem (ms : List Mem) (t : Nat) : t ∈ allS ms ↔ (t < 2 ^ ms.length ∧ spB ms t = true) := by unfold allS; rw [List.mem_filter, List.mem_range]

set_option maxRecDepth 100000 in
set_option maxHeartbeats 4000000 in
theorem splitting_run (P : Nat → Prop) (ms : List Mem) (v : Value) (w : World) (hl : ms.length ≤ 7) (h : MemsAt P 2 w v ms) (hok : MemsOk ms.length ms) :
    Calls Tryz.prog 21 #[.agg #[v]] w fun e w' => ∃ v' l, e = .returned (.tuple #[v', .int .i64 0]) ∧ w'.ownsRow w.heap.size 3 1 v' l.length ((zs l).map (Value.int .i64)) ∧ IsLeast (pz (zs (allS ms))) l ∧ Below w.heap.size w w' := by
  have hl10 : ms.length ≤ 10 := by omega
  obtain ⟨i0, hin, hz0, hz1, hz2⟩ := info_parts infoInt
  obtain ⟨A, c, rfl⟩ := h.slice
  have hb1 : Below w.heap.size w (w.alloc (.cells #[.slice A ms.length c] 27)) := balloc (bref w) _
  have k0 : (w.alloc (.cells #[.slice A ms.length c] 27)).heap[w.heap.size]? = some (.cells #[.slice A ms.length c] 27 (0, 0)) := alloc_at rfl
  have hp := pow11 ms.length (by omega)
  have h10 : 2 ^ ms.length ≤ 2 ^ 10 := Nat.pow_le_pow_right (by omega) hl10
  have HQA := Lib.hid (show allS ms = (List.range (2 ^ ms.length)).filter (spB ms) from rfl)
  have HAL := Lib.hid (allS_len ms hl10)
  have HQI := Lib.hid (spB_iff ms)
  generalize spB ms = q at *
  generalize allS ms = aq at *
  obtain ⟨N, hN⟩ : ∃ N, 2 ^ ms.length = N := ⟨_, rfl⟩
  rw [hN] at hp h10 HQA
  have HNN := Lib.hid hN
  clear hN
  have hn0 : (0 : Int) ≤ (ms.length : Int) := by omega
  have hn64 : ¬ (64 : Int) ≤ (ms.length : Int) := by omega
  have H := Lib.hid (h.below hb1)
  have HB := Lib.hid hb1
  have K0 := Lib.hid k0
  have HOK := Lib.hid hok
  clear h hb1 k0 hok
  go_enter Tryz.func21, Tryz.ntmps21
  go_upto_region 1 with fail
  generalize w.alloc (.cells #[.slice A ms.length c] 27) = W1 at *
  generalize hg : w.heap.size = g at *
  have HG := Lib.hid hg
  clear hg
  have c0 : W1.cell? ⟨g, 0, none⟩ = some (.slice A ms.length c) := cell_of_row _ _ 0 _ _ (0, 0) K0.out
  have hgl := cell_lt c0
  go_wp2_with fail
  refine (cvalid_run P ms _ _ hl10 H.out HOK.out).mono ?_
  rintro e W2 ⟨rfl, hb2⟩
  have HB2 := Lib.hid hb2
  have d0 := (hb2.cell hgl).trans c0
  have HM2 := Lib.hid (H.out.below hb2)
  have hgl2 := cell_lt d0
  clear hb2 c0
  go_wp2_with fail
  rw [hp]
  go_loopw [5, 22] (fun v t W => ∃ (k : Nat) (l : List Nat) (vv : Value), k ≤ N ∧ v = vv ∧ t = .int .i64 k ∧ W.ownsRow W2.heap.size 3 1 vv l.length ((zs l).map (Value.int .i64)) ∧ Hid (l = (List.range k).filter q) ∧ Hid (Below W2.heap.size W2 W)) (fun _ t _ => N - (intOf t).toNat)
  case atStart => exact ⟨0, [], .slice none 0 0, by omega, rfl, rfl, World.ownsRow_nil _ _ _ _, Lib.hid rfl, Lib.hid (bref _)⟩
  case round =>
    obtain ⟨k, l, v, hk, hv, rfl, hown, hL, hB⟩ := hrel
    replace hv := hv.symm
    subst hv
    have hlen : l.length ≤ k := by rw [hL.out]; exact Nat.le_trans (List.length_filter_le _ _) (by simp)
    have HOWN := Lib.hid hown
    have hbs := hB.out.size
    by_cases hlt : k < N
    · have e0 := (hB.out.cell hgl2).trans d0
      have HMk := Lib.hid (HM2.out.below hB.out)
      clear hown
      go_wp2_with fail
      refine (splits_run P ms _ k _ hl10 (by rw [HNN.out]; exact hlt) HMk.out HOK.out).mono ?_
      rintro e W5 ⟨⟨b, rfl, hb⟩, hb5⟩
      have HB5 := Lib.hid (bstep hB.out hb5)
      have HO5 := Lib.hid (own_keepG HOWN.out (fun j _ _ hl => hb5.block j hl))
      rcases (show b = false ∨ b = true by cases b <;> simp) with rfl | rfl
      · have hqk : q k = false := by
          cases hq : q k
          · rfl
          · exact absurd (hb.2 ((HQI.out k).1 hq)) (by simp)
        have HL2 := Lib.hid (show l = (List.range (k + 1)).filter q by rw [List.range_succ, List.filter_append, ← hL.out]; simp [hqk])
        clear hb hqk hb5
        go_wp2_with fail
        go_roundw
        case rel => exact ⟨k + 1, l, _, by omega, rfl, by go_num, HO5.out, HL2, HB5⟩
        case measure => simp [intOf]; omega
      · have hqk : q k = true := (HQI.out k).2 (hb.1 rfl)
        have HL2 := Lib.hid (show l ++ [k] = (List.range (k + 1)).filter q by rw [List.range_succ, List.filter_append, ← hL.out]; simp [hqk])
        have hown := HO5.out
        have hsz5 := hb5.size
        have hzl := zs_len l
        clear hb hqk hb5
        go_wp2_with (at_builtin; refine wpList_append_own _ rfl _ _ 22 rfl W2.heap.size 3 i0 (.int .i64 0) 1 8 Tryz.underlying22 hin hz0 hz1 hz2 rfl (by decide) _ _ _ rfl (hown.alloc _) ⟨W5.heap.size, 0, none⟩ 1 1 [.int .i64 (k : Int)] rfl rfl (cell_one_new _ _ _) (fun u hu => by simp at hu; subst hu; rfl) (by unfold maxLen; omega) (by omega) (by simp; omega) ?_; intro v' w1 hown' hgrow hnil)
        have HO := Lib.hid (own_snocZ hown')
        have HB6 := Lib.hid (Below.grown (balloc HB5.out (.cells #[.int .i64 (k : Int)] 3)) hgrow (by simp; omega) (fun j hj => (hown.lt j hj).1))
        clear hown' hgrow hnil hown
        go_roundw
        case rel => exact ⟨k + 1, l ++ [k], _, by omega, rfl, by go_num, HO.out, HL2, HB6⟩
        case measure => simp [intOf]; omega
    · obtain rfl : k = N := by omega
      have hla : l = aq := by rw [hL.out, HQA.out]
      subst hla
      have HNL := Lib.hid (NodesAt.of_ownZ hown)
      have HBF := Lib.hid (show Below w.heap.size w wr from by
        have h0 := HB.out
        rw [← HG.out] at h0
        exact bstep (bstep h0 HB2.out) hB.out)
      obtain ⟨Ar, cr, hvr⟩ := own_slice hown
      subst hvr
      clear hown HOWN
      go_wp2_with fail
      refine (pleast_run _ _ (zs l) _ (by rw [zs_len]; have := HAL.out; omega) HNL.out).mono ?_
      rintro e W7 ⟨v7, l7, rfl, ho7, hl7, hb7⟩
      have HF := Lib.hid (show W7.ownsRow w.heap.size 3 1 v7 l7.length ((zs l7).map (Value.int .i64)) ∧ IsLeast (pz (zs l)) l7 ∧ Below w.heap.size w W7 from
        ⟨⟨ho7.1, by
          rcases ho7.2 with h2 | ⟨gg, cap, cur, e1, e2, e3⟩
          · exact .inl h2
          · exact .inr ⟨gg, cap, cur, e1, Nat.le_trans HBF.out.size e2, e3⟩⟩, hl7, bstep HBF.out hb7⟩)
      obtain ⟨A3, c3, hv3⟩ := own_slice ho7
      subst hv3
      clear ho7 hl7 hb7
      go_wp2_with fail
      go_ret2
      exact ⟨_, l7, rfl, HF.out⟩

set_option maxRecDepth 100000 in
set_option maxHeartbeats 4000000 in
theorem halting_run (P : Nat → Prop) (ms : List Mem) (v : Value) (w : World) (hl : ms.length ≤ 10) (h : MemsAt P 2 w v ms) (hok : MemsOk ms.length ms) :
    Calls Tryz.prog 8 #[.agg #[v]] w fun e w' => ∃ v' l q, e = .returned (.tuple #[v', .int .i64 0]) ∧ w'.ownsRow w.heap.size 3 1 v' l.length ((zs l).map (Value.int .i64)) ∧ IsLeast (pz (zs (allQ 2 ms))) q ∧ IsLeast (meetB ms.length q) l ∧ Below w.heap.size w w' := by
  obtain ⟨A, c, rfl⟩ := h.slice
  have hb1 : Below w.heap.size w (w.alloc (.cells #[.slice A ms.length c] 27)) := balloc (bref w) _
  have k0 : (w.alloc (.cells #[.slice A ms.length c] 27)).heap[w.heap.size]? = some (.cells #[.slice A ms.length c] 27 (0, 0)) := alloc_at rfl
  have H := Lib.hid (h.below hb1)
  have HB := Lib.hid hb1
  have K0 := Lib.hid k0
  have HQR := Lib.hid (fun W (hm : MemsAt P 2 W (.slice A ms.length c) ms) => qmin_run P ms _ W hl hm hok)
  have HAM := Lib.hid (allQ_mem 2 ms)
  clear h hb1 k0 hok
  generalize allQ 2 ms = aq at *
  go_enter Tryz.func8, Tryz.ntmps8
  go_upto_region 1 with fail
  generalize w.alloc (.cells #[.slice A ms.length c] 27) = W1 at *
  generalize hg : w.heap.size = g at *
  have HG := Lib.hid hg
  clear hg
  have c0 : W1.cell? ⟨g, 0, none⟩ = some (.slice A ms.length c) := cell_of_row _ _ 0 _ _ (0, 0) K0.out
  have HBw := Lib.hid (show Below w.heap.size w W1 by rw [HG.out]; exact HB.out)
  go_wp2_with fail
  refine (HQR.out _ H.out).mono ?_
  rintro e W2 ⟨v2, q, rfl, ho2, hq2, hb2⟩
  have c2 := (hb2.cell (cell_lt c0)).trans c0
  have HN := Lib.hid (NodesAt.of_ownZ ho2)
  have HB2 := Lib.hid (bstep HBw.out hb2)
  have HQ := Lib.hid hq2
  have HQL := Lib.hid (show ∀ t ∈ q, t < 2 ^ ms.length from fun t ht => by
    have h1 := ((hq2.2.1 t).1 ht).2.1
    have h2 : t ∈ aq := by
      unfold pz at h1
      have h3 := of_decide_eq_true (Bool.and_eq_true_iff.1 h1).2
      unfold zs at h3
      obtain ⟨a, h4, h5⟩ := List.mem_map.1 h3
      have : a = t := by omega
      rw [← this]; exact h4
    exact ((HAM.out t).1 h2).1)
  have hql := hq2.2.2
  obtain ⟨A2, c3, hv2⟩ := own_slice ho2
  subst hv2
  clear ho2 hb2 c0 hq2
  go_wp2_with fail
  refine (pmeeting_run _ _ q ms.length hl HQL.out hql _ HN.out).mono ?_
  rintro e W3 ⟨v3, l, rfl, ho3, hl3, hb3⟩
  have HF := Lib.hid (show W3.ownsRow w.heap.size 3 1 v3 l.length ((zs l).map (Value.int .i64)) ∧ IsLeast (pz (zs aq)) q ∧ IsLeast (meetB ms.length q) l ∧ Below w.heap.size w W3 from
    ⟨⟨ho3.1, by
      rcases ho3.2 with h2 | ⟨gg, cap, cur, e1, e2, e3⟩
      · exact .inl h2
      · exact .inr ⟨gg, cap, cur, e1, Nat.le_trans HB2.out.size e2, e3⟩⟩, HQ.out, hl3, bstep HB2.out hb3⟩)
  obtain ⟨A3, c4, hv3⟩ := own_slice ho3
  subst hv3
  clear ho3 hl3 hb3
  go_wp2_with fail
  go_ret2
  exact ⟨_, l, q, rfl, HF.out⟩
end Go.Proofs.YtobdnepmjcbjeaaGreat

namespace Go.Proofs.YtobdnepmjcbjeaaGreat
set_option linter.unusedVariables false
set_option linter.unusedSimpArgs false
open Go.RowKit

def belV (l : List Nat) (n : Nat) : Int := match l with | [] => (n : Int) | a :: _ => (popc a : Int) - 1

set_option maxRecDepth 100000 in
set_option maxHeartbeats 1000000 in
theorem below_run (P : Nat → Prop) (v : Value) (l : List Nat) (n nl : Nat) (hnl : l.length = nl) (hl : nl ≤ 1024) (ht : ∀ t ∈ l, t < 1024) (w : World) (hN : NodesAt P w v (zs l)) :
    Calls Tryz.prog 62 #[v, .int .i64 (n : Int)] w fun e w' => e = .returned (.int .i64 (belV l n)) ∧ Below w.heap.size w w' := by
  obtain ⟨A, c, rfl, hN2⟩ := hN
  rcases l with _ | ⟨a, r⟩
  · obtain rfl : nl = 0 := hnl.symm
    have HV := Lib.hid (show belV [] n = (n : Int) from rfl)
    have hz : (zs ([] : List Nat)).length = 0 := rfl
    rw [hz] at hN2 ⊢
    clear hN2
    go_enter Tryz.func62, Tryz.ntmps62
    go_wp2_with fail
    go_ret
    exact ⟨by rw [HV.out]; rfl, bref _⟩
  · have hz : (zs (a :: r)).length = nl := by rw [zs_len]; exact hnl
    have hnl1 : 1 ≤ nl := by rw [← hnl]; simp
    obtain ⟨b, off, hA, hb, hc⟩ := hN2 0 (by rw [hz]; omega)
    have hc0 : w.cell? ⟨b, off, none⟩ = some (.int .i64 (a : Int)) := hc
    have ha := ht a (by simp)
    have HV := Lib.hid (show belV (a :: r) n = (popc a : Int) - 1 from rfl)
    have hp10 : popc a ≤ 10 := by
      unfold popc
      exact Nat.le_trans List.countP_le_length (by simp)
    have hpr := fun W => psize_run a ha W
    have HPR := Lib.hid hpr
    generalize belV (a :: r) n = bv at *
    generalize popc a = p at *
    rw [hz] at hN2 ⊢
    subst hA
    clear hc hN2 ht hpr
    have hn0 : ¬ (nl : Int) = 0 := by omega
    have hn1 : (0 : Int) < (nl : Int) := by omega
    go_enter Tryz.func62, Tryz.ntmps62
    go_wp2_with fail
    refine (HPR.out _).mono ?_
    rintro e W2 ⟨rfl, rfl⟩
    go_wp2_with fail
    go_ret
    exact ⟨by rw [HV.out]; rfl, bref _⟩

def TolAt (w : World) (g : Nat) (v v1 v2 : Value) (l1 l2 : List Nat) (W : World) : Prop := W.cell? ⟨g, 0, none⟩ = some v ∧ NodesAt (fun _ => True) W v1 (zs l1) ∧ NodesAt (fun _ => True) W v2 (zs l2) ∧ Below w.heap.size w W
theorem TolAt.bel {w W W' : World} {g : Nat} {v v1 v2 : Value} {l1 l2 : List Nat} (h : TolAt w g v v1 v2 l1 l2 W) (hb : Below W.heap.size W W') : TolAt w g v v1 v2 l1 l2 W' :=
  ⟨(hb.cell (cell_lt h.1)).trans h.1, h.2.1.below hb, h.2.2.1.below hb, bstep h.2.2.2 hb⟩
theorem TolAt.keeps {w W : World} {g : Nat} {v v1 v2 : Value} {l1 l2 : List Nat} (h : TolAt w g v v1 v2 l1 l2 W) : W.cell? ⟨g, 0, none⟩ = some v ∧ TolAt w g v v1 v2 l1 l2 W := ⟨h.1, h⟩
theorem keepTol {w W W' : World} {g : Nat} {v v1 v2 : Value} {l1 l2 : List Nat} (h : W.cell? ⟨g, 0, none⟩ = some v ∧ TolAt w g v v1 v2 l1 l2 W) (hb : Below W.heap.size W W') : W'.cell? ⟨g, 0, none⟩ = some v ∧ TolAt w g v v1 v2 l1 l2 W' := (h.2.bel hb).keeps
theorem oneTol {w W : World} {g : Nat} {v v1 v2 : Value} {l1 l2 : List Nat} (h : W.cell? ⟨g, 0, none⟩ = some v ∧ TolAt w g v v1 v2 l1 l2 W) : NodesAt (fun _ => True) W v1 (zs l1) := h.2.2.1
theorem twoTol {w W : World} {g : Nat} {v v1 v2 : Value} {l1 l2 : List Nat} (h : W.cell? ⟨g, 0, none⟩ = some v ∧ TolAt w g v v1 v2 l1 l2 W) : NodesAt (fun _ => True) W v2 (zs l2) := h.2.2.2.1
def TolOk (ms : List Mem) (e : Ending) : Prop := ∃ l1 l2 q, IsLeast (pz (zs (allS ms))) l1 ∧ IsLeast (pz (zs (allQ 2 ms))) q ∧ IsLeast (meetB ms.length q) l2 ∧ e = .returned (.tuple #[.int .i64 (belV l1 ms.length), .int .i64 (belV l2 ms.length), .int .i64 0])

set_option maxRecDepth 100000 in
set_option maxHeartbeats 4000000 in
theorem tolerates_run (P : Nat → Prop) (ms : List Mem) (v : Value) (w : World) (hl : ms.length ≤ 7) (h : MemsAt P 2 w v ms) (hok : MemsOk ms.length ms) :
    Calls Tryz.prog 36 #[.agg #[v]] w fun e w' => TolOk ms e ∧ Below w.heap.size w w' := by
  obtain ⟨A, c, rfl⟩ := h.slice
  have hb1 : Below w.heap.size w (w.alloc (.cells #[.slice A ms.length c] 27)) := balloc (bref w) _
  have k0 : (w.alloc (.cells #[.slice A ms.length c] 27)).heap[w.heap.size]? = some (.cells #[.slice A ms.length c] 27 (0, 0)) := alloc_at rfl
  have H := Lib.hid (h.below hb1)
  have HB := Lib.hid hb1
  have K0 := Lib.hid k0
  have HSP := Lib.hid (fun W (hm : MemsAt P 2 W (.slice A ms.length c) ms) => splitting_run P ms _ W hl hm hok)
  have HHA := Lib.hid (fun W (hm : MemsAt P 2 W (.slice A ms.length c) ms) => halting_run P ms _ W (by omega) hm hok)
  have HTO := Lib.hid (show ∀ e, TolOk ms e ↔ _ from fun e => by unfold TolOk; exact Iff.rfl)
  generalize TolOk ms = TK at *
  obtain ⟨nm, hnm⟩ : ∃ nm, ms.length = nm := ⟨_, rfl⟩
  rw [hnm] at HSP HHA H K0 HB HTO hl ⊢
  clear h hb1 k0 hok hnm
  go_enter Tryz.func36, Tryz.ntmps36
  go_upto_region 1 with fail
  generalize w.alloc (.cells #[.slice A nm c] 27) = W1 at *
  generalize hg : w.heap.size = g at *
  have HG := Lib.hid hg
  clear hg
  have c0 : W1.cell? ⟨g, 0, none⟩ = some (.slice A nm c) := cell_of_row _ _ 0 _ _ (0, 0) K0.out
  have HBw := Lib.hid (show Below w.heap.size w W1 by rw [HG.out]; exact HB.out)
  go_wp2_with fail
  refine (HSP.out _ H.out).mono ?_
  rintro e W2 ⟨v2, l1, rfl, ho2, hq2, hb2⟩
  have c2 := (hb2.cell (cell_lt c0)).trans c0
  have HN2 := Lib.hid ((NodesAt.of_ownZ ho2).both (Q := fun _ => True) (fun _ _ _ => rfl) (fun _ _ _ => trivial))
  have HB2 := Lib.hid (bstep HBw.out hb2)
  have H2 := Lib.hid (H.out.below hb2)
  have HL1 := Lib.hid hq2
  have HT1 := Lib.hid (show ∀ t ∈ l1, t < 1024 from fun t ht => ((hq2.2.1 t).1 ht).1)
  obtain ⟨A2, c3, hv2⟩ := own_slice ho2
  subst hv2
  obtain ⟨n1, hn1⟩ : ∃ n, l1.length = n := ⟨_, rfl⟩
  have hn1l : n1 ≤ 1024 := by rw [← hn1]; exact hq2.2.2
  have HN1 := Lib.hid hn1
  rw [hn1] at HN2 ⊢
  clear ho2 hb2 c0 hq2 hn1
  go_wp2_with fail
  refine (HHA.out _ H2.out).mono ?_
  rintro e W3 ⟨v3, l2, q, rfl, ho3, hq3, hl3, hb3⟩
  have c4 := (hb3.cell (cell_lt c2)).trans c2
  have HN3 := Lib.hid ((NodesAt.of_ownZ ho3).both (Q := fun _ => True) (fun _ _ _ => rfl) (fun _ _ _ => trivial))
  have HT2 := Lib.hid (show ∀ t ∈ l2, t < 1024 from fun t ht => ((hl3.2.1 t).1 ht).1)
  obtain ⟨A3, c5, hv3⟩ := own_slice ho3
  subst hv3
  obtain ⟨n2, hn2⟩ : ∃ n, l2.length = n := ⟨_, rfl⟩
  have hn2l : n2 ≤ 1024 := by rw [← hn2]; exact hl3.2.2
  have HNN2 := Lib.hid hn2
  rw [hn2] at HN3 ⊢
  have HF := Lib.hid (show TK (.returned (.tuple #[.int .i64 (belV l1 nm), .int .i64 (belV l2 nm), .int .i64 0])) from (HTO.out _).2 ⟨l1, l2, q, HL1.out, hq3, hl3, rfl⟩)
  have HTA := Lib.hid (show TolAt w g (.slice A nm c) (.slice A2 n1 c3) (.slice A3 n2 c5) l1 l2 W3 from ⟨c4, HN2.out.below hb3, HN3.out, bstep HB2.out hb3⟩)
  clear ho3 hb3 hq3 hl3 hn2 c4 c2
  go_upto_region 7 with fail
  have hS := Lib.hid (HTA.out.bel (W' := W3.drew) ⟨rfl, rfl, rfl, Nat.le_refl _, fun _ _ => rfl⟩).keeps
  go_region_held3 (fun W => W.cell? ⟨g, 0, none⟩ = some (.slice A nm c) ∧ TolAt w g (.slice A nm c) (.slice A2 n1 c3) (.slice A3 n2 c5) l1 l2 W) (first | exact hS.out | exact hSK | exact keepTol (by assumption) hbK | go_keep)
    (first
      | (go_at_call_of 62 (Value.slice A2 n1 c3); refine (below_run _ _ l1 nm n1 HN1.out hn1l HT1.out _ (by exact oneTol (by assumption))).mono ?_; rintro e WK ⟨rfl, hbK⟩; have hSK := keepTol (by assumption) hbK)
      | (go_at_call_of 62 (Value.slice A3 n2 c5); refine (below_run _ _ l2 nm n2 HNN2.out hn2l HT2.out _ (by exact twoTol (by assumption))).mono ?_; rintro e WK ⟨rfl, hbK⟩; have hSK := keepTol (by assumption) hbK))
  all_goals
    have HBF := Lib.hid hSK.2.2.2.2
    go_wp2_with fail
    go_ret3
    exact ⟨HF.out, HBF.out⟩
end Go.Proofs.YtobdnepmjcbjeaaGreat

namespace Go.Proofs.YtobdnepmjcbjeaaGreat
set_option linter.unusedVariables false
set_option linter.unusedSimpArgs false
open Go.RowKit

def nodU (n : Nat) : List Int := (List.range n).map (fun (i : Nat) => (i : Int))

theorem nodU_succ (n : Nat) : nodU (n + 1) = nodU n ++ [(n : Int)] := by unfold nodU; rw [List.range_succ, List.map_append]; rfl

theorem nodU_len (n : Nat) : (nodU n).length = n := by unfold nodU; simp

def uniT (n k : Nat) : Tree := .mk (k : Int) (nodU n) []

def uniM (n k j : Nat) : List Mem := List.replicate j (true, uniT n k)

theorem uniM_succ (n k j : Nat) : uniM n k (j + 1) = uniM n k j ++ [(true, uniT n k)] := List.replicate_succ'

theorem uniM_len (n k j : Nat) : (uniM n k j).length = j := List.length_replicate

/-- How many of the first n bits are on. -/
def pcN (n S : Nat) : Nat := (List.range n).countP (fun j => S.testBit j)

theorem uni_decl (n k m : Nat) : ∀ j, j ≤ m → declS (uniM n k m) j = 2 ^ j - 1
  | 0, _ => rfl
  | j + 1, h => by
    have ih := uni_decl n k m j (by omega)
    have hg : (uniM n k m).getD j (false, .mk 0 [] []) = (true, uniT n k) := by
      rw [List.getD_eq_getElem?_getD]
      have : (uniM n k m)[j]? = some (true, uniT n k) := by unfold uniM; rw [List.getElem?_replicate, if_pos (by omega)]
      rw [this]; rfl
    show (if ((uniM n k m).getD j (false, .mk 0 [] [])).1 then declS (uniM n k m) j ||| 2 ^ j else declS (uniM n k m) j) = _
    rw [hg, if_pos rfl, ih]
    apply Nat.eq_of_testBit_eq
    intro i
    rw [Nat.testBit_or, Nat.testBit_two_pow_sub_one, Nat.testBit_two_pow, Nat.testBit_two_pow_sub_one]
    by_cases h1 : i < j
    · rw [decide_eq_true h1, decide_eq_true (show i < j + 1 by omega)]; rfl
    · by_cases h2 : j = i
      · rw [decide_eq_false h1, decide_eq_true h2, decide_eq_true (show i < j + 1 by omega)]; rfl
      · rw [decide_eq_false h1, decide_eq_false h2, decide_eq_false (show ¬ i < j + 1 by omega)]; rfl

theorem uni_tr {n k j : Nat} (h : j < n) : trOf (uniM n k n) j = uniT n k := by
  unfold trOf
  rw [List.getD_eq_getElem?_getD]
  have : (uniM n k n)[j]? = some (true, uniT n k) := by unfold uniM; rw [List.getElem?_replicate, if_pos h]
  rw [this]; rfl

theorem uni_cnt (S : Nat) (hS : S < 1024) : ∀ n, n ≤ 10 → cnt (hasB (S : Int)) (nodU n) = pcN n S
  | 0, _ => rfl
  | n + 1, h => by
    have ih := uni_cnt S hS n (by omega)
    unfold cnt at ih ⊢
    unfold pcN at ih ⊢
    rw [nodU_succ, List.filter_append, List.length_append, ih, List.range_succ, List.countP_append]
    congr 1
    rw [List.filter_cons, hasB_bit hS (by omega)]
    cases hb : S.testBit n <;> simp [hb]

theorem uni_sat {d n k S : Nat} (hn : n ≤ 10) (hS : S < 1024) : satB (d + 1) (uniT n k) (S : Int) = decide (k ≤ pcN n S) := by
  unfold satB uniT
  rw [setB_iff.2 ⟨by omega, by omega⟩, Bool.true_and]
  show decide ((k : Int) ≤ ((cnt (hasB (S : Int)) (nodU n) + cnt (holdsT d (hasB (S : Int))) [] : Nat) : Int)) = _
  rw [uni_cnt S hS n hn]
  have : cnt (holdsT d (hasB (S : Int))) [] = 0 := rfl
  rw [this, Nat.add_zero]
  apply Bool.eq_iff_iff.2
  simp

theorem uni_closed {d n k S : Nat} (hn : n ≤ 10) (hS : S < 2 ^ n) (h0 : S ≠ 0) : Closed (d + 1) (uniM n k n) S ↔ k ≤ pcN n S := by
  have h10 : 2 ^ n ≤ 2 ^ 10 := Nat.pow_le_pow_right (by omega) hn
  have hS10 : S < 1024 := by omega
  constructor
  · intro h
    obtain ⟨j, hj⟩ : ∃ j, S.testBit j = true := Classical.byContradiction (fun hc => h0 (Nat.eq_of_testBit_eq (fun i => by
      rw [Nat.zero_testBit]
      cases hb : S.testBit i
      · rfl
      · exact (hc ⟨i, hb⟩).elim)))
    have hjn : j < n := by
      rcases Nat.lt_or_ge j n with h1 | h1
      · exact h1
      · rw [Nat.testBit_lt_two_pow (Nat.lt_of_lt_of_le hS (Nat.pow_le_pow_right (by omega) h1))] at hj; cases hj
    have h1 := h j (by rw [uniM_len]; exact hjn)
    unfold uns at h1
    rw [hasB_bit hS10 (by omega), hj, uni_tr hjn, uni_sat hn hS10] at h1
    simpa using h1
  · intro h j hj
    rw [uniM_len] at hj
    unfold uns
    rw [uni_tr hj, uni_sat hn hS10, decide_eq_true h]
    simp

theorem nodU_mem {n : Nat} {x : Int} (h : x ∈ nodU n) : 0 ≤ x ∧ x < (n : Int) := by
  unfold nodU at h
  obtain ⟨i, hi, rfl⟩ := List.mem_map.1 h
  have := List.mem_range.1 hi
  omega

theorem nodU_nodup : ∀ n, (nodU n).Nodup
  | 0 => List.nodup_nil
  | n + 1 => by
    rw [nodU_succ, List.nodup_append]
    refine ⟨nodU_nodup n, by simp, fun a ha b hb => ?_⟩
    rw [List.mem_singleton] at hb
    have := nodU_mem ha
    omega

theorem uni_ok {n k : Nat} (hn : n ≤ 10) (hk : 1 ≤ k) (hkn : k ≤ n) : MemsOk (uniM n k n).length (uniM n k n) := by
  intro x hx
  rw [uniM_len]
  obtain rfl : x = (true, uniT n k) := List.eq_of_mem_replicate hx
  refine ⟨fun _ => ?_, fun h => by cases h⟩
  refine ⟨by omega, ?_, by rw [nodU_len]; exact hn, by simp, fun x hx => nodU_mem hx, nodU_nodup n, fun T hT => by cases hT⟩
  rw [nodU_len]
  simp; omega

end Go.Proofs.YtobdnepmjcbjeaaGreat

namespace Go.Proofs.YtobdnepmjcbjeaaGreat
set_option linter.unusedVariables false
set_option linter.unusedSimpArgs false
open Go.RowKit

set_option maxRecDepth 100000 in
theorem pcN_popc (n s : Nat) (hn : n ≤ 10) (hs : s < 2 ^ n) : pcN n s = popc s := by
  have all : ∀ n : Fin 11, (List.range (2 ^ n.val)).all (fun s => pcN n.val s == popc s) = true := by decide +kernel
  have := List.all_eq_true.1 (all ⟨n, by omega⟩) s (List.mem_range.2 hs)
  simpa using this

set_option maxRecDepth 100000 in
theorem popc_del (s i : Nat) (hs : s < 1024) (hi : i < 10) (hb : s.testBit i = true) : popc (s - 2 ^ i) + 1 = popc s ∧ subB (s - 2 ^ i) s = true ∧ (s - 2 ^ i).testBit i = false := by
  have all : ∀ s : Fin 1024, ∀ i : Fin 10, s.val.testBit i.val = true → (popc (s.val - 2 ^ i.val) + 1 = popc s.val ∧ subB (s.val - 2 ^ i.val) s.val = true ∧ (s.val - 2 ^ i.val).testBit i.val = false) := by decide +kernel
  exact all ⟨s, hs⟩ ⟨i, hi⟩ hb

set_option maxRecDepth 100000 in
theorem dl_bit (s i j : Nat) (hs : s < 1024) (hi : i < 10) (hj : j < 10) (hb : s.testBit i = true) (hij : j ≠ i) : (s - 2 ^ i).testBit j = s.testBit j := by
  have all : ∀ s : Fin 1024, ∀ i : Fin 10, ∀ j : Fin 10, s.val.testBit i.val = true → j.val ≠ i.val → (s.val - 2 ^ i.val).testBit j.val = s.val.testBit j.val := by decide +kernel
  exact all ⟨s, hs⟩ ⟨i, hi⟩ ⟨j, hj⟩ hb hij

theorem testBit_lt10 {s i : Nat} (hs : s < 1024) (h : s.testBit i = true) : i < 10 := by
  rcases Nat.lt_or_ge i 10 with h1 | h1
  · exact h1
  · have h2 : s < 2 ^ i := Nat.lt_of_lt_of_le hs (Nat.pow_le_pow_right (n := 2) (by omega) h1)
    rw [Nat.testBit_lt_two_pow h2] at h; cases h

theorem subB_of {a b : Nat} (h : ∀ k, a.testBit k = true → b.testBit k = true) : subB a b = true := by
  rw [subB_iff]
  apply Nat.eq_of_testBit_eq
  intro k
  rw [Nat.testBit_and]
  cases ha : a.testBit k
  · rfl
  · rw [h k ha]; rfl

/-- A proper subset has fewer nodes. -/
theorem popc_strict {y s : Nat} (hs : s < 1024) (h : subB y s = true) (hne : y ≠ s) : popc y < popc s := by
  obtain ⟨i, hi1, hi2⟩ : ∃ i, s.testBit i = true ∧ y.testBit i = false := Classical.byContradiction (fun hc => hne (Nat.eq_of_testBit_eq (fun i => by
    cases hy : y.testBit i
    · cases hsb : s.testBit i
      · rfl
      · exact (hc ⟨i, hsb, hy⟩).elim
    · rw [subB_bit h hy])))
  have hi10 := testBit_lt10 hs hi1
  obtain ⟨h1, h2, h3⟩ := popc_del s i hs hi10 hi1
  have hy : subB y (s - 2 ^ i) = true := subB_of (fun k hk => by
    have hsk := subB_bit h hk
    have hk10 := testBit_lt10 hs hsk
    by_cases e : k = i
    · subst e; rw [hi2] at hk; cases hk
    · rw [dl_bit s i k hs hi10 hk10 hi1 e]; exact hsk)
  have := subB_popc hy
  omega

theorem popc_pos {s : Nat} (hs : s < 1024) (h : 0 < popc s) : ∃ i, i < 10 ∧ s.testBit i = true := by
  unfold popc at h
  obtain ⟨i, hi, hb⟩ := List.countP_pos_iff.1 h
  exact ⟨i, List.mem_range.1 hi, hb⟩

/-- The sets of n nodes that have k of them at least. -/
def uniQ (n k : Nat) : List Nat := (List.range (2 ^ n)).filter (fun s => decide (k ≤ popc s))

theorem uniQ_mem {n k t : Nat} : t ∈ uniQ n k ↔ t < 2 ^ n ∧ k ≤ popc t := by unfold uniQ; rw [List.mem_filter, List.mem_range, decide_eq_true_iff]

theorem sub_full {n s : Nat} (hs : s < 2 ^ n) : Sub s (2 ^ n - 1) := fun k hk => by
  rw [Nat.testBit_two_pow_sub_one, decide_eq_true_iff]
  rcases Nat.lt_or_ge k n with h1 | h1
  · exact h1
  · rw [Nat.testBit_lt_two_pow (Nat.lt_of_lt_of_le hs (Nat.pow_le_pow_right (by omega) h1))] at hk; cases hk

theorem allQ_uni (n k : Nat) (hn : n ≤ 10) (hk : 1 ≤ k) : allQ 2 (uniM n k n) = uniQ n k := by
  unfold allQ uniQ
  rw [uniM_len]
  refine List.filter_congr (fun s hs => ?_)
  have hs := List.mem_range.1 hs
  have h10 : 2 ^ n ≤ 2 ^ 10 := Nat.pow_le_pow_right (by omega) hn
  rw [Bool.eq_iff_iff, qB_iff, decide_eq_true_iff, uniM_len, uni_decl n k n n (Nat.le_refl _)]
  have hp := pcN_popc n s hn hs
  constructor
  · rintro ⟨h0, _, h2⟩
    have := (uni_closed (d := 1) (k := k) hn hs h0).1 h2
    omega
  · intro h
    have h0 : s ≠ 0 := by
      rintro rfl
      have : popc 0 = 0 := by decide
      omega
    exact ⟨h0, sub_full hs, (uni_closed (d := 1) (k := k) hn hs h0).2 (by omega)⟩

theorem pz_uni {n k t : Nat} (hn : n ≤ 10) : pz (zs (uniQ n k)) t = true ↔ t < 2 ^ n ∧ k ≤ popc t := by
  have h10 : 2 ^ n ≤ 2 ^ 10 := Nat.pow_le_pow_right (by omega) hn
  rw [pz_iff]
  unfold zs
  rw [List.mem_map]
  constructor
  · rintro ⟨_, x, hx, e⟩
    obtain rfl := Int.ofNat.inj e
    exact uniQ_mem.1 hx
  · rintro ⟨h1, h2⟩
    exact ⟨by omega, t, uniQ_mem.2 ⟨h1, h2⟩, rfl⟩

/-- The minimal ones have just k nodes. -/
theorem least_uni {n k : Nat} (hn : n ≤ 10) {l : List Nat} (h : IsLeast (pz (zs (uniQ n k))) l) (t : Nat) : t ∈ l ↔ t < 2 ^ n ∧ popc t = k := by
  have h10 : 2 ^ n ≤ 2 ^ 10 := Nat.pow_le_pow_right (by omega) hn
  rw [h.2.1 t, pz_uni hn]
  constructor
  · rintro ⟨h1, ⟨h2, h3⟩, h4⟩
    refine ⟨h2, ?_⟩
    rcases Nat.lt_or_ge k (popc t) with h5 | h5
    · obtain ⟨i, hi, hb⟩ := popc_pos h1 (by omega)
      obtain ⟨e1, e2, _⟩ := popc_del t i h1 hi hb
      have hlt : t - 2 ^ i < 2 ^ n := Nat.lt_of_le_of_lt (Nat.sub_le _ _) h2
      have := h4 (t - 2 ^ i) ((pz_uni hn).2 ⟨hlt, by omega⟩) e2
      have hp : 1 ≤ 2 ^ i := Nat.one_le_two_pow
      have ht : t ≠ 0 := by rintro rfl; simp at hb
      omega
    · omega
  · rintro ⟨h1, h2⟩
    refine ⟨by omega, ⟨h1, by omega⟩, fun y hy hs => ?_⟩
    have hy2 := (pz_uni hn).1 hy
    by_cases e : y = t
    · exact e
    · have := popc_strict (show t < 1024 by omega) hs e
      omega

theorem least_uni_len {n k : Nat} (hn : n ≤ 10) {l : List Nat} (h : IsLeast (pz (zs (uniQ n k))) l) : l.length = (List.range (2 ^ n)).countP (fun s => decide (popc s = k)) := by
  rw [List.countP_eq_length_filter]
  refine List.Perm.length_eq ((List.perm_ext_iff_of_nodup (asc_nodup h.1) (List.nodup_iff_pairwise_ne.2 ((List.nodup_iff_pairwise_ne.1 List.nodup_range).filter _))).2 (fun t => ?_))
  rw [least_uni hn h t, List.mem_filter, List.mem_range, decide_eq_true_iff]

theorem uniQ_len (n k : Nat) : (uniQ n k).length = (List.range (2 ^ n)).countP (fun s => decide (k ≤ popc s)) := by unfold uniQ; rw [List.countP_eq_length_filter]

theorem least32 {l : List Nat} (h : IsLeast (pz (zs (uniQ 3 2))) l) : l = [3, 5, 6] := by
  refine asc_ext h.1 (show Asc [3, 5, 6] by unfold Asc; decide +kernel) (fun t => ?_)
  rw [least_uni (by omega) h t]
  constructor
  · rintro ⟨h1, h2⟩
    have all : ∀ t : Fin 8, popc t.val = 2 → t.val ∈ [3, 5, 6] := by decide +kernel
    exact all ⟨t, h1⟩ h2
  · intro h1
    have all : ∀ t ∈ [3, 5, 6], t < 2 ^ 3 ∧ popc t = 2 := by decide +kernel
    exact all t h1

theorem uniQ32 : (uniQ 3 2).length = 4 := by decide +kernel

end Go.Proofs.YtobdnepmjcbjeaaGreat

namespace Go.Proofs.YtobdnepmjcbjeaaGreat
set_option linter.unusedVariables false
set_option linter.unusedSimpArgs false
open Go.RowKit

theorem bgrownD {w a b : World} {sb : Nat} (h : Below w.heap.size w a) (hg : a.grownBy b (some sb)) (hs : w.heap.size ≤ sb) : Below w.heap.size w b :=
  h.grown hg h.size (fun k hk => by cases hk; exact hs)

/-- What holds of the world of a law that has made a trust: the tape, the trust in its block g. -/
structure MadeAt (w : World) (g d : Nat) (t : Int) (v1 v2 : Value) (T : Tree) (W : World) : Prop where
  tape : TapeOk W w.heap.size
  out : OutAt W g t v1 v2
  tat : TAt (fun b => w.heap.size < b) d W (.int .i64 t) v1 v2 T
  low : w.heap.size < g
  below : Below w.heap.size w W

theorem MadeAt.bel {w W W' : World} {g d : Nat} {t : Int} {v1 v2 : Value} {T : Tree} (h : MadeAt w g d t v1 v2 T W) (hb : Below W.heap.size W W') : MadeAt w g d t v1 v2 T W' :=
  ⟨h.tape.below hb, h.out.keep (hb.block _ h.out.lt), h.tat.below hb, h.low, bstep h.below hb⟩

theorem MadeAt.grown {w W W' : World} {g d : Nat} {t : Int} {v1 v2 : Value} {T : Tree} (h : MadeAt w g d t v1 v2 T W) (hs : TapeOk W' w.heap.size) (hg : W.grownBy W' (some w.heap.size)) : MadeAt w g d t v1 v2 T W' :=
  ⟨hs, h.out.keep (hg.block _ h.out.lt (by have := h.low; simp; omega)), h.tat.keep (fun q hq hP => hg.block q hq (by simp; omega)), h.low, bgrownD h.below hg (Nat.le_refl _)⟩

theorem MadeAt.drew {w W : World} {g d : Nat} {t : Int} {v1 v2 : Value} {T : Tree} (h : MadeAt w g d t v1 v2 T W) : MadeAt w g d t v1 v2 T W.drew := h.bel ⟨rfl, rfl, rfl, Nat.le_refl _, fun _ _ => rfl⟩

theorem cnt_same {α β : Type} (P : α → Bool) (f : α → β) (dead good : β → Bool) : ∀ (l : List α), (∀ x ∈ l, P x = true ↔ dead (f x) = true ∨ good (f x) = true) → cnt P l = cnt dead (l.map f) + cnt good ((l.map f).filter (fun y => !dead y))
  | [], _ => by simp [cnt]
  | x :: l, h => by
    have ih := cnt_same P f dead good l (fun y hy => h y (List.mem_cons_of_mem _ hy))
    have h1 := h x List.mem_cons_self
    unfold cnt at *
    rw [List.map_cons, List.filter_cons, List.filter_cons, List.filter_cons]
    cases hd : dead (f x) <;> cases hp : P x <;> cases hg : good (f x) <;> simp [hd, hp, hg] at h1 <;> simp [List.filter_cons, hg] <;> simp at ih <;> omega

theorem holds_less {n : Int} {s : Nat} {p q : Int → Bool} (h : ∀ x, 0 ≤ x → x < n → (p x = true ↔ hasB (s : Int) x = true ∨ q x = true)) : ∀ (d : Nat) (T : Tree), WF n d T → (holdsT d p T = true ↔ deadT (lessT s d T) = true ∨ holdsT d q (lessT s d T) = true)
  | 0, T, w => w.elim
  | d + 1, .mk thr ns is, w => by
    obtain ⟨h1, _, _, _, h5, _, hi⟩ := w
    have e1 := cnt_same p id (hasB (s : Int)) q ns (fun x hx => h x (h5 x hx).1 (h5 x hx).2)
    have e2 := cnt_same (holdsT d p) (lessT s d) deadT (holdsT d q) is (fun T hT => holds_less h d T (hi T hT))
    rw [List.map_id] at e1
    show decide (thr ≤ ((cnt p ns + cnt (holdsT d p) is : Nat) : Int)) = true ↔ decide ((((thr.toNat - cnt (hasB (s : Int)) ns - cnt deadT (is.map (lessT s d)) : Nat)) : Int) ≤ 0) = true ∨ decide ((((thr.toNat - cnt (hasB (s : Int)) ns - cnt deadT (is.map (lessT s d)) : Nat)) : Int) ≤ ((cnt q (ns.filter (fun k => !hasB (s : Int) k)) + cnt (holdsT d q) ((is.map (lessT s d)).filter (fun T => !deadT T)) : Nat) : Int)) = true
    rw [decide_eq_true_iff, decide_eq_true_iff, decide_eq_true_iff, e1, e2]
    omega

theorem del_holds {n : Int} {s k : Nat} {p q : Int → Bool} (hk : q (k : Int) = true) (h : ∀ x, 0 ≤ x → x < n → (p x = true ↔ hasB (s : Int) x = true ∨ q x = true)) (d : Nat) (T : Tree) (w : WF n (d + 1) T) : holdsT (d + 1) q (delT s k (d + 1) T) = holdsT (d + 1) p T := by
  rw [Bool.eq_iff_iff, holds_less h _ _ w]
  unfold delT
  cases hd : deadT (lessT s (d + 1) T)
  · simp
  · rw [if_pos rfl]
    have : holdsT (d + 1) q (.mk 1 [(k : Int)] []) = true := by
      show decide ((1 : Int) ≤ ((cnt q [(k : Int)] + cnt (holdsT d q) [] : Nat) : Int)) = true
      unfold cnt
      simp [List.filter_cons, hk]
    simp [this]

theorem sat_of {d : Nat} {T : Tree} {s : Nat} (hs : s < 1024) : satB d T (s : Int) = holdsT d (hasB (s : Int)) T := by
  unfold satB
  rw [setB_iff.2 ⟨by omega, by omega⟩, Bool.true_and]

/-- What deletion means. -/
theorem del_means {n : Int} (hn : n ≤ 10) {g k z y : Nat} {d : Nat} {T : Tree} (w : WF n (d + 1) T) (hg : g < 1024) (hz : z < 1024) (hy : y < 1024) (hk : k < 10) (hkz : z.testBit k = true) (hb : ∀ K, K < 10 → y.testBit K = (g.testBit K || z.testBit K)) : satB (d + 1) (delT g k (d + 1) T) (z : Int) = satB (d + 1) T (y : Int) := by
  rw [sat_of hz, sat_of hy]
  refine del_holds (by rw [hasB_bit hz hk]; exact hkz) (fun x h0 h1 => ?_) d T w
  obtain ⟨X, rfl⟩ := Int.eq_ofNat_of_zero_le h0
  rw [hasB_bit hy (by omega), hasB_bit hg (by omega), hasB_bit hz (by omega), hb X (by omega), Bool.or_eq_true]

/-- Deletion makes it easier. -/
theorem del_grows {n : Int} (hn : n ≤ 10) {g k z : Nat} {d : Nat} {T : Tree} (w : WF n (d + 1) T) (hg : g < 1024) (hz : z < 1024) (hk : k < 10) (hkz : z.testBit k = true) (hkg : g.testBit k = false) (h : satB (d + 1) T (z : Int) = true) : satB (d + 1) (delT g k (d + 1) T) ((minS z g : Nat) : Int) = true := by
  have hzg : z ||| g < 1024 := Nat.or_lt_two_pow (n := 10) hz hg
  rw [del_means hn w hg (minS_lt hz) hzg hk (by rw [minS_bit, hkz, hkg]; rfl) (fun K _ => by
    rw [Nat.testBit_or, minS_bit]
    cases z.testBit K <;> cases g.testBit K <;> rfl)]
  exact sat_sub hzg (fun K hK => by rw [Nat.testBit_or, hK]; rfl) h

end Go.Proofs.YtobdnepmjcbjeaaGreat

namespace Go.Proofs.YtobdnepmjcbjeaaGreat
set_option linter.unusedVariables false
set_option linter.unusedSimpArgs false
open Go.RowKit

theorem decl_one (s k : Nat) (m : Mem) : (delOne s k m).1 = (m.1 && !hasB (s : Int) (k : Int)) := by
  unfold delOne
  cases h : hasB (s : Int) (k : Int)
  · obtain ⟨b, T⟩ := m
    cases b <;> simp
  · simp

theorem decl_del {ms : List Mem} {s : Nat} (hl : ms.length ≤ 10) (hs : s < 1024) : declS (delM s ms) (delM s ms).length = minS (declS ms ms.length) s := by
  apply Nat.eq_of_testBit_eq
  intro k
  rw [minS_bit, declS_iff, declS_iff, delM_len]
  rcases Nat.lt_or_ge k ms.length with hk | hk
  · have hm : ms[k]? = some (ms[k]'hk) := List.getElem?_eq_getElem hk
    have hd := delM_get (s := s) hm
    rw [List.getD_eq_getElem?_getD, hd, List.getD_eq_getElem?_getD, hm]
    simp only [Option.getD_some, hk, decide_true, Bool.true_and]
    rw [decl_one, hasB_bit hs (by omega)]
  · rw [decide_eq_false (by omega)]; rfl

theorem trOf_get {ms : List Mem} {k : Nat} {m : Mem} (h : ms[k]? = some m) : trOf ms k = m.2 := by
  unfold trOf
  rw [List.getD_eq_getElem?_getD, h]; rfl

theorem mem_decl {ms : List Mem} {k : Nat} (h : (declS ms ms.length).testBit k = true) : ∃ m, ms[k]? = some m ∧ m.1 = true ∧ k < ms.length := by
  rw [declS_iff, Bool.and_eq_true] at h
  have hk := of_decide_eq_true h.1
  refine ⟨ms[k]'hk, List.getElem?_eq_getElem hk, ?_, hk⟩
  have := h.2
  rw [List.getD_eq_getElem?_getD, List.getElem?_eq_getElem hk] at this
  exact this

theorem trOf_del {ms : List Mem} {s k : Nat} {m : Mem} (hs : s < 1024) (hk : k < 10) (h : ms[k]? = some m) (hd : m.1 = true) (hb : s.testBit k = false) : trOf (delM s ms) k = delT s k 2 m.2 := by
  rw [trOf_get (delM_get h)]
  unfold delOne
  rw [hasB_bit hs hk, hb, hd]
  simp

theorem uns_iff {d : Nat} {ms : List Mem} {s k : Nat} (hs : s < 1024) (hk : k < 10) : uns d ms s k = (s.testBit k && !satB d (trOf ms k) (s : Int)) := by
  unfold uns
  rw [hasB_bit hs hk]

/-- What is left of a quorum is closed behind the deletion. -/
theorem closed_del {ms : List Mem} {s q : Nat} (hl : ms.length ≤ 10) (hs : s < 1024) (hq : q < 1024) (hok : MemsOk ms.length ms) (hsub : Sub q (declS ms ms.length)) (hc : Closed 2 ms q) : Closed 2 (delM s ms) (minS q s) := by
  intro k hk
  rw [delM_len] at hk
  have hk10 : k < 10 := by omega
  rw [uns_iff (minS_lt hq) hk10, minS_bit]
  cases hqk : q.testBit k
  · rfl
  · cases hsk : s.testBit k
    · obtain ⟨m, hm, hd, _⟩ := mem_decl (hsub k hqk)
      have hw := (hok m (List.mem_of_getElem? hm)).1 hd
      have h1 := hc k hk
      rw [uns_iff hq hk10, hqk, trOf_get hm, Bool.true_and, Bool.not_eq_false'] at h1
      rw [trOf_del hs hk10 hm hd hsk, del_grows (n := ms.length) (by omega) hw hs hq hk10 hqk hsk h1]
      rfl
    · rfl

/-- Is each member of y, below k, satisfied by o? -/
def allF (ms : List Mem) (y o : Nat) (b : Bool) : Nat → Bool
  | 0 => b
  | k + 1 => allF ms y o b k && !(y.testBit k && !satB 2 (trOf ms k) (o : Int))

theorem allF_iff {ms : List Mem} {y o : Nat} {b : Bool} : ∀ n, allF ms y o b n = true ↔ b = true ∧ ∀ k, k < n → y.testBit k = true → satB 2 (trOf ms k) (o : Int) = true
  | 0 => by simp [allF]
  | n + 1 => by
    rw [allF, Bool.and_eq_true, allF_iff n]
    constructor
    · rintro ⟨⟨h1, h2⟩, h3⟩
      refine ⟨h1, fun k hk hy => ?_⟩
      rcases Nat.lt_or_ge k n with h | h
      · exact h2 k h hy
      · obtain rfl : k = n := by omega
        simpa [hy] using h3
    · rintro ⟨h1, h2⟩
      refine ⟨⟨h1, fun k hk hy => h2 k (by omega) hy⟩, ?_⟩
      cases hy : y.testBit n
      · simp
      · simp [h2 n (by omega) hy]

/-- A set without deleted nodes is a quorum behind the deletion exactly if each of its nodes is satisfied by it with the deleted nodes. -/
theorem quor_del {ms : List Mem} {s y o : Nat} {b : Bool} (hl : ms.length ≤ 10) (hs : s < 1024) (hy : y < 1024) (ho : y ||| s = o) (hys : ∀ k, y.testBit k = true → s.testBit k = false) (hok : MemsOk ms.length ms)
    (hb : b = true ↔ y ≠ 0 ∧ Sub y (declS (delM s ms) (delM s ms).length) ∧ Closed 2 (delM s ms) y) (c : Bool) (hc : c = true ↔ y ≠ 0 ∧ Sub y (declS ms ms.length)) : b = allF ms y o c ms.length := by
  rw [Bool.eq_iff_iff, hb, allF_iff, hc]
  have hol : o < 1024 := by rw [← ho]; exact Nat.or_lt_two_pow (n := 10) hy hs
  have hsub : Sub y (declS (delM s ms) (delM s ms).length) ↔ Sub y (declS ms ms.length) := by
    rw [decl_del hl hs]
    constructor
    · intro h k hk
      have := h k hk
      rw [minS_bit, Bool.and_eq_true] at this
      exact this.1
    · intro h k hk
      rw [minS_bit, h k hk, hys k hk]; rfl
  rw [hsub]
  have key : ∀ k, Sub y (declS ms ms.length) → k < ms.length → y.testBit k = true → satB 2 (trOf (delM s ms) k) (y : Int) = satB 2 (trOf ms k) (o : Int) := fun k hD hk hyk => by
    have hk10 : k < 10 := by omega
    obtain ⟨m, hm, hd, _⟩ := mem_decl (hD k hyk)
    have hw := (hok m (List.mem_of_getElem? hm)).1 hd
    rw [trOf_del hs hk10 hm hd (hys k hyk), trOf_get hm]
    exact del_means (n := ms.length) (by omega) hw hs hy hol hk10 hyk (fun K _ => by rw [← ho, Nat.testBit_or, Bool.or_comm])
  constructor
  · rintro ⟨h1, h2, h3⟩
    refine ⟨⟨h1, h2⟩, fun k hk hyk => ?_⟩
    have h4 := h3 k (by rw [delM_len]; exact hk)
    rw [uns_iff hy (by omega), hyk, Bool.true_and, Bool.not_eq_false'] at h4
    rw [← key k h2 hk hyk]; exact h4
  · rintro ⟨⟨h1, h2⟩, h3⟩
    refine ⟨h1, h2, fun k hk => ?_⟩
    rw [delM_len] at hk
    rw [uns_iff hy (by omega)]
    cases hyk : y.testBit k
    · rfl
    · rw [key k h2 hk hyk, h3 k hk hyk]; rfl

theorem sub_and_eq {y D : Nat} : y &&& D = y ↔ Sub y D := by
  constructor
  · intro h k hk
    rw [← h, Nat.testBit_and, Bool.and_eq_true] at hk
    exact hk.2
  · intro h
    apply Nat.eq_of_testBit_eq
    intro k
    rw [Nat.testBit_and]
    cases hk : y.testBit k
    · rfl
    · rw [h k hk]; rfl

end Go.Proofs.YtobdnepmjcbjeaaGreat

namespace Go.Proofs.YtobdnepmjcbjeaaGreat
set_option linter.unusedVariables false
set_option linter.unusedSimpArgs false

def Dis (a b : Nat) : Prop := ∀ k, a.testBit k = true → b.testBit k = false
theorem Dis.symm {a b : Nat} (h : Dis a b) : Dis b a := fun k hk => by
  cases ha : a.testBit k
  · rfl
  · rw [h k ha] at hk; cases hk
theorem lt_pow_of {q n : Nat} (h : ∀ k, q.testBit k = true → k < n) : q < 2 ^ n := Nat.lt_pow_two_of_testBit _ (fun i hi => by
  cases hb : q.testBit i
  · rfl
  · have := h i hb; omega)
theorem bitLt {q n k : Nat} (hq : q < 2 ^ n) (h : q.testBit k = true) : k < n := by
  rcases Nat.lt_or_ge k n with h1 | h1
  · exact h1
  · rw [Nat.testBit_lt_two_pow (Nat.lt_of_lt_of_le hq (Nat.pow_le_pow_right (by omega) h1))] at h; cases h
theorem full_bit {n k : Nat} : (2 ^ n - 1).testBit k = true ↔ k < n := by rw [Nat.testBit_two_pow_sub_one, decide_eq_true_iff]

theorem cnt_or : ∀ (l : List Nat) (a s : Nat), Dis a s → l.countP (fun k => (a ||| s).testBit k) = l.countP (fun k => a.testBit k) + l.countP (fun k => s.testBit k)
  | [], _, _, _ => rfl
  | x :: l, a, s, h => by
    have ih := cnt_or l a s h
    rw [List.countP_cons, List.countP_cons, List.countP_cons, ih, Nat.testBit_or]
    cases ha : a.testBit x
    · simp; omega
    · rw [h x ha]; simp; omega
theorem popc_or {a s : Nat} (h : Dis a s) : popc (a ||| s) = popc a + popc s := cnt_or _ a s h
theorem popcLe {n s : Nat} (hn : n ≤ 10) (hs : s < 2 ^ n) : popc s ≤ n := by
  rw [← pcN_popc n s hn hs]
  unfold pcN
  exact Nat.le_trans List.countP_le_length (by simp)
theorem or_lt {n a b : Nat} (ha : a < 2 ^ n) (hb : b < 2 ^ n) : a ||| b < 2 ^ n := Nat.or_lt_two_pow ha hb
theorem popc_two {n a b : Nat} (hn : n ≤ 10) (ha : a < 2 ^ n) (hb : b < 2 ^ n) (h : Dis a b) : popc a + popc b ≤ n := by
  rw [← popc_or h]
  exact popcLe hn (or_lt ha hb)
/-- A set without another. -/
theorem popc_rest {c a : Nat} (h : Sub a c) : popc (minS c a) + popc a = popc c := by
  have hd : Dis (minS c a) a := fun k hk => by
    rw [minS_bit] at hk
    cases ha : a.testBit k
    · rfl
    · rw [ha] at hk; simp at hk
  rw [← popc_or hd]
  congr 1
  apply Nat.eq_of_testBit_eq
  intro k
  rw [Nat.testBit_or, minS_bit]
  cases ha : a.testBit k
  · simp
  · simp [h k ha]
theorem minS_lt2 {n c a : Nat} (h : c < 2 ^ n) : minS c a < 2 ^ n := lt_pow_of (fun k hk => by
  rw [minS_bit, Bool.and_eq_true] at hk
  exact bitLt h hk.1)
/-- There is a part of each size. -/
theorem sub_size : ∀ (m c r : Nat), c < 1024 → popc c = r + m → ∃ a, Sub a c ∧ popc a = r
  | 0, c, r, _, h => ⟨c, fun k hk => hk, by omega⟩
  | m + 1, c, r, hc, h => by
    obtain ⟨i, hi, hb⟩ := popc_pos hc (by omega)
    obtain ⟨e1, e2, _⟩ := popc_del c i hc hi hb
    obtain ⟨a, h1, h2⟩ := sub_size m (c - 2 ^ i) r (Nat.lt_of_le_of_lt (Nat.sub_le _ _) hc) (by omega)
    exact ⟨a, fun k hk => subB_bit e2 (h1 k hk), h2⟩
theorem sub_lt {n a c : Nat} (h : Sub a c) (hc : c < 2 ^ n) : a < 2 ^ n := lt_pow_of (fun k hk => bitLt hc (h k hk))
theorem sub_dis {a c s : Nat} (h : Sub a c) (hd : Dis c s) : Dis a s := fun k hk => hd k (h k hk)
theorem rest_dis {c a : Nat} : Dis (minS c a) a := fun k hk => by
  rw [minS_bit] at hk
  cases ha : a.testBit k
  · rfl
  · rw [ha] at hk; simp at hk
theorem popc_full (n : Nat) (hn : n ≤ 10) : popc (2 ^ n - 1) = n := by
  have all : ∀ n : Fin 11, popc (2 ^ n.val - 1) = n.val := by decide +kernel
  exact all ⟨n, by omega⟩
theorem popc_zero : popc 0 = 0 := by decide

/-- When is a set closed after the deletion of s? -/
theorem delU_closed {n k s A : Nat} (hn : n ≤ 10) (hk : 1 ≤ k) (hkn : k ≤ n) (hs : s < 2 ^ n) (hA : A < 2 ^ n) (h0 : A ≠ 0) (hd : Dis A s) : Closed 2 (delM s (uniM n k n)) A ↔ k ≤ popc (A ||| s) := by
  have h10 : 2 ^ n ≤ 2 ^ 10 := Nat.pow_le_pow_right (by omega) hn
  have hok := uni_ok hn hk hkn
  have hor := or_lt hA hs
  have key : ∀ j, A.testBit j = true → uns 2 (delM s (uniM n k n)) A j = !decide (k ≤ popc (A ||| s)) := fun j hj => by
    have hjn := bitLt hA hj
    have hget : (uniM n k n)[j]? = some (true, uniT n k) := by
      unfold uniM
      rw [List.getElem?_replicate, if_pos hjn]
    have hmem := List.mem_of_getElem? hget
    rw [uns_iff (by omega) (by omega), hj, Bool.true_and, trOf_del (by omega) (by omega) hget rfl (hd j hj)]
    rw [del_means (n := ((uniM n k n).length : Int)) (by rw [uniM_len]; omega) ((hok _ hmem).1 rfl) (by omega) (by omega) (show A ||| s < 1024 by omega) (by omega) hj (fun K _ => by rw [Nat.testBit_or, Bool.or_comm])]
    rw [uni_sat hn (by omega), pcN_popc n _ hn hor]
  constructor
  · intro h
    obtain ⟨j, hj⟩ : ∃ j, A.testBit j = true := Classical.byContradiction (fun hc => h0 (Nat.eq_of_testBit_eq (fun i => by
      rw [Nat.zero_testBit]
      cases hb : A.testBit i
      · rfl
      · exact (hc ⟨i, hb⟩).elim)))
    have h1 := h j (by rw [delM_len, uniM_len]; exact bitLt hA hj)
    rw [key j hj] at h1
    simpa using h1
  · intro h j hj
    rw [delM_len, uniM_len] at hj
    cases hb : A.testBit j
    · rw [uns_iff (by omega) (by omega), hb]; rfl
    · rw [key j hb, decide_eq_true h]; rfl

theorem spl_uni {n k s : Nat} (hn : n ≤ 10) (hk : 1 ≤ k) (hkn : k ≤ n) (hs : s < 2 ^ n) : Spl (uniM n k n) s ↔ ∃ A B, A < 2 ^ n ∧ B < 2 ^ n ∧ A ≠ 0 ∧ B ≠ 0 ∧ Dis A s ∧ Dis B s ∧ Dis A B ∧ k ≤ popc (A ||| s) ∧ k ≤ popc (B ||| s) := by
  have h10 : 2 ^ n ≤ 2 ^ 10 := Nat.pow_le_pow_right (by omega) hn
  have hD : declS (delM s (uniM n k n)) (delM s (uniM n k n)).length = minS (2 ^ n - 1) s := by
    rw [decl_del (by rw [uniM_len]; exact hn) (by omega), uniM_len, uni_decl n k n n (Nat.le_refl _)]
  unfold Spl Apart IsQ
  rw [hD, delM_len, uniM_len]
  constructor
  · rintro ⟨t, ht, ⟨t0, ts, tc⟩, q, hq, q0, qs, qc⟩
    have td : Dis t s := sub_dis ts rest_dis
    have qs2 := sub_and.1 qs
    have qd : Dis q s := sub_dis qs2.2 rest_dis
    have hq2 : q < 2 ^ n := lt_pow_of (fun k hk => by
      have := qs2.1 k hk
      rw [outS_bit, Bool.and_eq_true, decide_eq_true_iff] at this
      exact this.1)
    refine ⟨t, q, ht, hq2, t0, q0, td, qd, ?_, (delU_closed hn hk hkn hs ht t0 td).1 tc, (delU_closed hn hk hkn hs hq2 q0 qd).1 qc⟩
    refine Dis.symm (fun k hk => ?_)
    have := qs2.1 k hk
    rw [outS_bit, Bool.and_eq_true] at this
    simpa using this.2
  · rintro ⟨t, q, ht, hq, t0, q0, td, qd, hd, tc, qc⟩
    refine ⟨t, ht, ⟨t0, fun k hk => ?_, (delU_closed hn hk hkn hs ht t0 td).2 tc⟩, q, by omega, q0, fun k hk => ?_, (delU_closed hn hk hkn hs hq q0 qd).2 qc⟩
    · rw [minS_bit, td k hk, full_bit.2 (bitLt ht hk)]; rfl
    · rw [Nat.testBit_and, outS_bit, minS_bit, qd k hk, full_bit.2 (bitLt hq hk), hd.symm k hk, decide_eq_true (bitLt hq hk)]; rfl

/-- What splits is large enough. -/
theorem spl_ge {n k s : Nat} (hn : n ≤ 10) (hk : 1 ≤ k) (hkn : k ≤ n) (hs : s < 2 ^ n) (h : Spl (uniM n k n) s) : 2 * k ≤ n + popc s ∧ k < n := by
  obtain ⟨A, B, hA, hB, A0, B0, dA, dB, dAB, kA, kB⟩ := (spl_uni hn hk hkn hs).1 h
  have h10 : 2 ^ n ≤ 2 ^ 10 := Nat.pow_le_pow_right (by omega) hn
  rw [popc_or dA] at kA
  rw [popc_or dB] at kB
  have d3 : Dis (A ||| B) s := fun k hk => by
    rw [Nat.testBit_or, Bool.or_eq_true] at hk
    rcases hk with h | h
    · exact dA k h
    · exact dB k h
  have h3 := popc_two hn (or_lt hA hB) hs d3
  rw [popc_or dAB] at h3
  have hB1 : 1 ≤ popc B := by
    rcases Nat.eq_zero_or_pos (popc B) with e | e
    · exfalso
      refine B0 (Nat.eq_of_testBit_eq (fun i => ?_))
      rw [Nat.zero_testBit]
      cases hb : B.testBit i
      · rfl
      · unfold popc at e
        rw [List.countP_eq_zero] at e
        exact (e i (List.mem_range.2 (by have := bitLt hB hb; omega)) hb).elim
    · exact e
  omega
/-- And a set of that size splits. -/
theorem spl_at {n k s : Nat} (hn : n ≤ 10) (hk : 1 ≤ k) (hkn : k < n) (hs : s < 2 ^ n) (h : popc s = 2 * k - n) : Spl (uniM n k n) s := by
  have h10 : 2 ^ n ≤ 2 ^ 10 := Nat.pow_le_pow_right (by omega) hn
  have hp1 : 1 ≤ 2 ^ n := Nat.one_le_two_pow
  obtain ⟨c, hc⟩ : ∃ c, minS (2 ^ n - 1) s = c := ⟨_, rfl⟩
  have hcl : c < 2 ^ n := by rw [← hc]; exact minS_lt2 (by omega)
  have hcp := popc_rest (c := 2 ^ n - 1) (a := s) (fun k hk => full_bit.2 (bitLt hs hk))
  have hcd : Dis c s := by rw [← hc]; exact rest_dis
  rw [hc, popc_full n hn] at hcp
  obtain ⟨A, hA1, hA2⟩ := sub_size (n - k) c (k - (2 * k - n)) (by omega) (by omega)
  have hA := sub_lt hA1 hcl
  have hB := minS_lt2 (a := A) hcl
  have hBp := popc_rest hA1
  have hBd : Dis (minS c A) s := fun k hk => by
    rw [minS_bit, Bool.and_eq_true] at hk
    exact hcd k hk.1
  refine (spl_uni hn hk (by omega) hs).2 ⟨A, minS c A, hA, hB, fun e => ?_, fun e => ?_, sub_dis hA1 hcd, hBd, rest_dis.symm, ?_, ?_⟩
  · rw [e, popc_zero] at hA2; omega
  · rw [e, popc_zero] at hBp; omega
  · rw [popc_or (sub_dis hA1 hcd)]; omega
  · rw [popc_or hBd]; omega

theorem pz_allS {ms : List Mem} {t : Nat} (hl : ms.length ≤ 10) : pz (zs (allS ms)) t = true ↔ t < 2 ^ ms.length ∧ Spl ms t := by
  have h10 : 2 ^ ms.length ≤ 2 ^ 10 := Nat.pow_le_pow_right (by omega) hl
  rw [pz_iff]
  unfold zs
  rw [List.mem_map]
  constructor
  · rintro ⟨_, x, hx, e⟩
    obtain rfl := Int.ofNat.inj e
    have h := (allS_mem ms _).1 hx
    exact ⟨h.1, (spB_iff ms _).1 h.2⟩
  · rintro ⟨h1, h2⟩
    exact ⟨by omega, t, (allS_mem ms t).2 ⟨h1, (spB_iff ms t).2 h2⟩, rfl⟩
theorem split_mem {n k : Nat} (hn : n ≤ 10) (hk : 1 ≤ k) (hkn : k ≤ n) {l : List Nat} (h : IsLeast (pz (zs (allS (uniM n k n)))) l) (t : Nat) : t ∈ l ↔ t < 2 ^ n ∧ k < n ∧ popc t = 2 * k - n := by
  have h10 : 2 ^ n ≤ 2 ^ 10 := Nat.pow_le_pow_right (by omega) hn
  have hp := fun t => pz_allS (ms := uniM n k n) (t := t) (by rw [uniM_len]; exact hn)
  simp only [uniM_len] at hp
  rw [h.2.1 t]
  constructor
  · rintro ⟨h1, h2, h3⟩
    obtain ⟨h2, h4⟩ := (hp t).1 h2
    obtain ⟨h5, h6⟩ := spl_ge hn hk hkn h2 h4
    refine ⟨h2, h6, ?_⟩
    obtain ⟨a, ha1, ha2⟩ := sub_size (popc t - (2 * k - n)) t (2 * k - n) h1 (by omega)
    have := h3 a ((hp a).2 ⟨sub_lt ha1 h2, spl_at hn hk h6 (sub_lt ha1 h2) ha2⟩) (subB_of ha1)
    rw [← this]; exact ha2
  · rintro ⟨h1, h2, h3⟩
    refine ⟨by omega, (hp t).2 ⟨h1, spl_at hn hk h2 h1 h3⟩, fun y hy hs => ?_⟩
    obtain ⟨hy1, hy2⟩ := (hp y).1 hy
    have h4 := (spl_ge hn hk hkn hy1 hy2).1
    by_cases e : y = t
    · exact e
    · have := popc_strict (show t < 1024 by omega) hs e
      omega

/-- What meets all sets of k nodes. -/
theorem meet_uni {n k : Nat} (hn : n ≤ 10) (hk : 1 ≤ k) (hkn : k ≤ n) {q : List Nat} (hq : ∀ t, t ∈ q ↔ t < 2 ^ n ∧ popc t = k) : meetB n q = pz (zs (uniQ n (n - k + 1))) := by
  have h10 : 2 ^ n ≤ 2 ^ 10 := Nat.pow_le_pow_right (by omega) hn
  have hp1 : 1 ≤ 2 ^ n := Nat.one_le_two_pow
  funext s
  rw [Bool.eq_iff_iff, pz_uni hn]
  unfold meetB
  rw [Bool.and_eq_true, decide_eq_true_iff, Bool.not_eq_true']
  refine and_congr_right (fun hs => ?_)
  rw [List.any_eq_false]
  constructor
  · intro h
    rcases Nat.lt_or_ge (popc s) (n - k + 1) with h1 | h1
    · exfalso
      have hcp := popc_rest (c := 2 ^ n - 1) (a := s) (fun k hk => full_bit.2 (bitLt hs hk))
      rw [popc_full n hn] at hcp
      have hcl : minS (2 ^ n - 1) s < 2 ^ n := minS_lt2 (by omega)
      obtain ⟨a, ha1, ha2⟩ := sub_size (popc (minS (2 ^ n - 1) s) - k) (minS (2 ^ n - 1) s) k (by omega) (by omega)
      have := h a ((hq a).2 ⟨sub_lt ha1 hcl, ha2⟩)
      refine this (beq_iff_eq.2 (Nat.eq_of_testBit_eq (fun i => ?_)))
      rw [Nat.testBit_and, Nat.zero_testBit]
      cases hb : a.testBit i
      · simp
      · rw [sub_dis ha1 rest_dis i hb]; rfl
    · exact h1
  · intro h t ht e
    obtain ⟨ht1, ht2⟩ := (hq t).1 ht
    have e := beq_iff_eq.1 e
    have hd : Dis s t := fun i hi => by
      have : (s &&& t).testBit i = false := by rw [e, Nat.zero_testBit]
      rw [Nat.testBit_and, hi] at this
      simpa using this
    have := popc_two hn hs ht1 hd
    omega
theorem halt_mem {n k : Nat} (hn : n ≤ 10) (hk : 1 ≤ k) (hkn : k ≤ n) {q l : List Nat} (hq : IsLeast (pz (zs (allQ 2 (uniM n k n)))) q) (h : IsLeast (meetB (uniM n k n).length q) l) (t : Nat) : t ∈ l ↔ t < 2 ^ n ∧ popc t = n - k + 1 := by
  rw [allQ_uni n k hn hk] at hq
  rw [uniM_len, meet_uni hn hk hkn (least_uni hn hq)] at h
  exact least_uni hn h t

theorem asc43 : Asc [3, 5, 6, 9, 10, 12] := by unfold Asc; decide +kernel
theorem mem43 (t : Nat) : (t < 2 ^ 4 ∧ popc t = 2) ↔ t ∈ [3, 5, 6, 9, 10, 12] := by
  constructor
  · rintro ⟨h1, h2⟩
    have all : ∀ t : Fin 16, popc t.val = 2 → t.val ∈ [3, 5, 6, 9, 10, 12] := by decide +kernel
    exact all ⟨t, h1⟩ h2
  · intro h1
    have all : ∀ t ∈ [3, 5, 6, 9, 10, 12], t < 2 ^ 4 ∧ popc t = 2 := by decide +kernel
    exact all t h1
theorem split43 {l : List Nat} (h : IsLeast (pz (zs (allS (uniM 4 3 4)))) l) : l = [3, 5, 6, 9, 10, 12] :=
  asc_ext h.1 asc43 (fun t => by
    rw [split_mem (by omega) (by omega) (by omega) h t, ← mem43]
    simp)
theorem halt43 {q l : List Nat} (hq : IsLeast (pz (zs (allQ 2 (uniM 4 3 4)))) q) (h : IsLeast (meetB (uniM 4 3 4).length q) l) : l = [3, 5, 6, 9, 10, 12] :=
  asc_ext h.1 asc43 (fun t => by rw [halt_mem (by omega) (by omega) (by omega) hq h t, ← mem43])
end Go.Proofs.YtobdnepmjcbjeaaGreat

namespace Go.Proofs.YtobdnepmjcbjeaaGreat
set_option linter.unusedVariables false
set_option linter.unusedSimpArgs false
open Go.RowKit

/-- Members in a row of its own, with trusts that lie below B0. -/
def RowP (P : Nat → Prop) (B d : Nat) (W : World) (v : Value) (rs : List Mem) : Prop :=
  ∃ cs : List Value, W.ownsRow B 55 4 v rs.length cs ∧ ∀ k m, rs[k]? = some m → ∃ x0 x1 x2, cs[k * 4]? = some (.bool m.1) ∧ cs[k * 4 + 1]? = some x0 ∧ cs[k * 4 + 2]? = some x1 ∧ cs[k * 4 + 3]? = some x2 ∧ TAt P d W x0 x1 x2 m.2

theorem RowP.app {P : Nat → Prop} {B d : Nat} {wo W5 : World} {v' x0 x1 x2 : Value} {rs : List Mem} {m : Mem} {cs : List Value}
    (hcl : ∀ k m, rs[k]? = some m → ∃ x0 x1 x2, cs[k * 4]? = some (.bool m.1) ∧ cs[k * 4 + 1]? = some x0 ∧ cs[k * 4 + 2]? = some x1 ∧ cs[k * 4 + 3]? = some x2 ∧ TAt P d wo x0 x1 x2 m.2) (hcn : cs.length = rs.length * 4)
    (keep : ∀ q, P q → q < wo.heap.size → W5.heap[q]? = wo.heap[q]?) (hT : TAt P d wo x0 x1 x2 m.2) (hown5 : W5.ownsRow B 55 4 v' (rs.length + 1) (cs ++ [.bool m.1, x0, x1, x2])) : RowP P B d W5 v' (rs ++ [m]) := by
  refine ⟨cs ++ [.bool m.1, x0, x1, x2], by simpa using hown5, fun k S hS => ?_⟩
  rcases Nat.lt_or_ge k rs.length with hk | hk
  · rw [List.getElem?_append_left hk] at hS
    obtain ⟨y0, y1, y2, e0, e1, e2, e3, e4⟩ := hcl k S hS
    exact ⟨y0, y1, y2, by rw [List.getElem?_append_left (by omega)]; exact e0, by rw [List.getElem?_append_left (by omega)]; exact e1, by rw [List.getElem?_append_left (by omega)]; exact e2, by rw [List.getElem?_append_left (by omega)]; exact e3, e4.keep (fun q hq hP => keep q hP hq)⟩
  · have hk2 : k = rs.length := by
      have := (List.getElem?_eq_some_iff.1 hS).1
      simp at this; omega
    subst hk2
    have hS' : S = m := by simpa using hS.symm
    subst hS'
    refine ⟨x0, x1, x2, ?_, ?_, ?_, ?_, hT.keep (fun q hq hP => keep q hP hq)⟩
    · rw [List.getElem?_append_right (by omega)]; simp [hcn]
    · rw [List.getElem?_append_right (by omega), show rs.length * 4 + 1 - cs.length = 1 by omega]; rfl
    · rw [List.getElem?_append_right (by omega), show rs.length * 4 + 2 - cs.length = 2 by omega]; rfl
    · rw [List.getElem?_append_right (by omega), show rs.length * 4 + 3 - cs.length = 3 by omega]; rfl

theorem RowP.keep {P : Nat → Prop} {B d : Nat} {W W' : World} {v : Value} {rs : List Mem} (h : RowP P B d W v rs) (hk : ∀ q, q < W.heap.size → (P q ∨ B ≤ q) → W'.heap[q]? = W.heap[q]?) : RowP P B d W' v rs := by
  obtain ⟨cs, h1, h2⟩ := h
  refine ⟨cs, own_keepG h1 (fun j _ hB hl => hk j hl (.inr hB)), fun k m hm => ?_⟩
  obtain ⟨x0, x1, x2, e0, e1, e2, e3, e4⟩ := h2 k m hm
  exact ⟨x0, x1, x2, e0, e1, e2, e3, e4.keep (fun q hq hP => hk q hq (.inl hP))⟩

theorem RowP.mems {P : Nat → Prop} {B d : Nat} {W : World} {v : Value} {rs : List Mem} (h : RowP P B d W v rs) : MemsAt (fun _ => True) d W v rs := by
  obtain ⟨cs, h1, h2⟩ := h
  rcases h1.2 with ⟨hv, h0⟩ | ⟨g, cap, cur, hv, hb, _⟩
  · exact ⟨none, 0, by rw [hv, h0], fun k T hT => by have := (List.getElem?_eq_some_iff.1 hT).1; omega⟩
  · refine ⟨some ⟨g, 0, none⟩, cap, hv, fun k m hm => ?_⟩
    obtain ⟨x0, x1, x2, e0, e1, e2, e3, e4⟩ := h2 k m hm
    have c : ∀ j u, cs[j]? = some u → W.cell? ⟨g, 0 + j, none⟩ = some u := fun j u hu => by
      have := h1.cells (g := g) (by rw [hv]; rfl) j u hu
      rwa [Addr.add_lit] at this
    exact ⟨g, 0, x0, x1, x2, rfl, trivial, c _ _ e0, by rw [Nat.add_assoc]; exact c _ _ e1, by rw [Nat.add_assoc]; exact c _ _ e2, by rw [Nat.add_assoc]; exact c _ _ e3, e4.imp (fun q _ hq => trivial)⟩

end Go.Proofs.YtobdnepmjcbjeaaGreat

namespace Go.Proofs.YtobdnepmjcbjeaaGreat
set_option linter.unusedVariables false
set_option linter.unusedSimpArgs false
open Go.RowKit

set_option maxRecDepth 100000 in
set_option maxHeartbeats 4000000 in
theorem same16_run (n k : Nat) (hn : n ≤ 10) (hk : k ≤ 100) (w : World) : Calls Tryz.prog 35 #[.int .i64 (n : Int), .int .i64 (k : Int)] w fun e w' => ∃ v, e = .returned (.agg #[v]) ∧ MemsAt (fun _ => True) 1 w' v (uniM n k n) ∧ Below w.heap.size w w' := by
  obtain ⟨i4, hi4, hy0, hy1, hy2⟩ := info_parts infoMember
  obtain ⟨i0, hin, hz0, hz1, hz2⟩ := info_parts infoInt
  have hb2 : Below w.heap.size w ((w.alloc (.cells #[.slice none 0 0] 27)).alloc (.cells #[.int .i64 (k : Int), .slice none 0 0, .slice none 0 0] 51)) := balloc (balloc (bref w) _) _
  have k1 : ((w.alloc (.cells #[.slice none 0 0] 27)).alloc (.cells #[.int .i64 (k : Int), .slice none 0 0, .slice none 0 0] 51)).heap[w.heap.size]? = some (.cells #[.slice none 0 0] 27 (0, 0)) := alloc_on (alloc_at rfl)
  have k2 : OutAt ((w.alloc (.cells #[.slice none 0 0] 27)).alloc (.cells #[.int .i64 (k : Int), .slice none 0 0, .slice none 0 0] 51)) (w.heap.size + 1) (k : Int) (.slice none 0 0) (.slice none 0 0) := alloc_at (alloc_sz _ _)
  have hsz : ((w.alloc (.cells #[.slice none 0 0] 27)).alloc (.cells #[.int .i64 (k : Int), .slice none 0 0, .slice none 0 0] 51)).heap.size = w.heap.size + 2 := by rw [alloc_sz, alloc_sz]
  have HB := Lib.hid hb2
  have K1 := Lib.hid k1
  have K2 := Lib.hid k2
  clear hb2 k1 k2
  go_enter Tryz.func35, Tryz.ntmps35
  go_upto_region 2 with fail
  generalize ((w.alloc (.cells #[.slice none 0 0] 27)).alloc (.cells #[.int .i64 (k : Int), .slice none 0 0, .slice none 0 0] 51)) = W1 at *
  generalize hg : w.heap.size = g at *
  have HG := Lib.hid hg
  clear hg
  go_wp2_with fail
  go_loopw [6] (fun t W => ∃ (j : Nat) (v : Value), j ≤ n ∧ t = .int .i64 j ∧ W.ownsRow (g + 2) 3 1 v j ((nodU j).map (Value.int .i64)) ∧ Hid (OutAt W (g + 1) (k : Int) v (.slice none 0 0)) ∧ Hid (W1.grownBy W (some (g + 1)))) (fun t _ => n - (intOf t).toNat)
  case atStart => exact ⟨0, .slice none 0 0, by omega, rfl, World.ownsRow_nil _ _ _ _, K2, Lib.hid (World.grownBy.refl _ _)⟩
  case round =>
    obtain ⟨j, v, hj, rfl, hown, hO, hGr⟩ := hrel
    have hwr := hGr.out.size
    by_cases hlt : j < n
    · have HOW := Lib.hid (fun (q : Nat) (hq : v.ownBlock = some q) => hown.lt q hq)
      obtain ⟨o0, o1, o2⟩ := hO.out.cs
      have hol := hO.out.lt
      have HNU := Lib.hid (nodU_succ j)
      go_wp2_with (at_builtin; refine wpList_append_own _ rfl _ _ 22 rfl (g + 2) 3 i0 (.int .i64 0) 1 8 Tryz.underlying22 hin hz0 hz1 hz2 rfl (by decide) _ _ _ rfl (hown.alloc _) ⟨wr.heap.size, 0, none⟩ 1 1 [.int .i64 (j : Int)] rfl rfl (cell_one_new _ _ _) (fun u hu => by simp at hu; subst hu; rfl) (by unfold maxLen; omega) (by omega) (by simp; omega) ?_; intro v' W3 hown3 hgrow3 hnil; obtain ⟨gq, cq, rfl, hgq, hlq⟩ := hown3.form (by omega); have hO3 : OutAt W3 (g + 1) (k : Int) v (.slice none 0 0) := hO.out.keep ((hgrow3.block _ (by simp; omega) (fun e => by have := (HOW.out _ e.symm).1; omega)).trans (Below.heap_alloc _ _ _ hol)); obtain ⟨r0, r1, r2⟩ := hO3.cs; have rf1 := hO3.fr 1)
      have hgB : (wr.alloc (.cells #[.int .i64 (j : Int)] 3)).grownBy W3 v.ownBlock := ⟨hgrow3.os, hgrow3.tape, hgrow3.output, hgrow3.size, hgrow3.block⟩
      have HG4 := Lib.hid (grown_at (gown (grown_trans hGr.out (grown_below (balloc (bref wr) (.cells #[.int .i64 (j : Int)] 3)))) hgB (fun q hq => by have := (HOW.out q hq).1; omega)) 1 (.slice (some ⟨gq, 0, none⟩) (j + 1) cq))
      have HO4 := Lib.hid (hO3.set1 (.slice (some ⟨gq, 0, none⟩) (j + 1) cq))
      have hown4 := Lib.hid ((list_snoc hown3).kept (gset1 W3 ⟨g + 1, 1, none⟩ (.slice (some ⟨gq, 0, none⟩) (j + 1) cq)) (own_below (list_snoc hown3) (by first | omega | simp)))
      clear hgB hown3 hgrow3 hnil hgq hlq hO3 r0 r1 r2 rf1 hown
      go_wp2_with fail
      go_roundw
      case rel => exact ⟨j + 1, _, by omega, by go_num, by rw [HNU.out]; exact hown4.out, HO4, HG4⟩
      case measure => simp [intOf]; omega
    · obtain rfl : j = n := by omega
      obtain ⟨Av, cv, rfl⟩ := own_slice hown
      have hN := NodesAt.of_own (ns := nodU j) (by rw [nodU_len]; exact hown)
      have HN := Lib.hid hN
      obtain ⟨W2, hW2⟩ : ∃ x, x = wr := ⟨_, rfl⟩
      subst hW2
      have hgl2 : g + 2 ≤ W2.heap.size := by omega
      have kc : (W2.alloc (.cells #[.slice none 0 0] 27)).heap[W2.heap.size]? = some (.cells #[.slice none 0 0] 27 (0, 0)) := alloc_at rfl
      have HKC := Lib.hid kc
      have hbc := balloc (bref W2) (.cells #[.slice none 0 0] 27)
      have HO2 := Lib.hid (hO.out.keep (hbc.block _ hO.out.lt))
      have hTT : TAt (fun b => g + 2 ≤ b ∧ b < W2.heap.size) 1 (W2.alloc (.cells #[.slice none 0 0] 27)) (.int .i64 (k : Int)) (.slice Av j cv) (.slice none 0 0) (uniT j k) := by
        have hlen := nodU_len j
        obtain ⟨A', c', e1, e2⟩ := hN
        rw [hlen] at e1 e2
        cases e1
        refine ⟨rfl, by rw [hlen]; omega, by simp, ⟨Av, cv, by rw [hlen], fun q hq => ?_⟩, ⟨none, 0, rfl, fun k T hT => by simp at hT⟩⟩
        rw [hlen] at hq
        obtain ⟨b, off, f1, f2, f3⟩ := e2 q hq
        exact ⟨b, off, f1, ⟨f2, cell_lt f3⟩, (hbc.cell (cell_lt f3)).trans f3⟩
      have HTT := Lib.hid hTT
      have HGC := Lib.hid (grown_trans hGr.out (grown_below (r := some (g + 1)) hbc))
      have hszc : (W2.alloc (.cells #[.slice none 0 0] 27)).heap.size = W2.heap.size + 1 := alloc_sz _ _
      clear hown hN hO hbc hTT kc hGr
      go_upto_region 7 with fail
      generalize hWc : W2.alloc (.cells #[.slice none 0 0] 27) = Wc at *
      clear hWc
      obtain ⟨cb, hcb⟩ : ∃ cb, W2.heap.size = cb := ⟨_, rfl⟩
      have HCB := Lib.hid hcb
      rw [hcb] at HKC HTT hszc hgl2 ⊢
      clear hcb
      go_wp2_with fail
      go_loopw [8] (fun t W => ∃ (i : Nat) (v : Value), i ≤ j ∧ t = .int .i64 i ∧ Hid (RowP (fun b => g + 2 ≤ b ∧ b < cb) (cb + 1) 1 W v (uniM j k i)) ∧ Hid (W.heap[cb]? = some (.cells #[v] 27 (0, 0))) ∧ Hid (Wc.grownBy W (some cb))) (fun t _ => j - (intOf t).toNat)
      case atStart => exact ⟨0, .slice none 0 0, by omega, rfl, Lib.hid ⟨[], World.ownsRow_nil _ _ _ _, fun k T h => by simp [uniM] at h⟩, HKC, Lib.hid (World.grownBy.refl _ _)⟩
      case round =>
        obtain ⟨i, v, hi, rfl, hRow, hOut, hGw⟩ := hrel
        have hwr2 := hGw.out.size
        by_cases hlt2 : i < j
        · have HRS := Lib.hid (uniM_succ j k i)
          have HRL := Lib.hid (uniM_len j k i)
          obtain ⟨cs, hcs, hcl⟩ := hRow.out
          have hcn := hcs.1
          have HCL := Lib.hid hcl
          have HCS := Lib.hid hcs
          have HRO := Lib.hid hcs.lt
          obtain ⟨wo, hwo⟩ : ∃ x, x = wr := ⟨_, rfl⟩
          subst hwo
          have hOx := HO2.out.keep (hGw.out.block (g + 1) HO2.out.lt (by simp; omega))
          obtain ⟨x0, x1, x2⟩ := hOx.cs
          have HTo := Lib.hid (TAt.keep (w' := wo) (fun q hq hP => hGw.out.block q hq (by simp; omega)) HTT.out)
          have HCSA := Lib.hid (HCS.out.alloc (.cells #[.bool true, .int .i64 (k : Int), .slice Av j cv, .slice none 0 0] 55))
          have hba2 := balloc (bref wo) (.cells #[.bool true, .int .i64 (k : Int), .slice Av j cv, .slice none 0 0] 55)
          have HBA2 := Lib.hid hba2
          have HSZA := Lib.hid (alloc_sz wo (.cells #[.bool true, .int .i64 (k : Int), .slice Av j cv, .slice none 0 0] 55))
          have hcl3 : cb < wo.heap.size := by omega
          have q2 : wo.cell? ⟨cb, 0, none⟩ = some v := cell_of_row _ _ 0 _ _ (0, 0) hOut.out
          clear hba2 hcl hcs hOx
          go_wp2_with (at_builtin; refine wpList_append_lies _ rfl _ _ 25 rfl (cb + 1) 55 i4 (.agg #[.bool false, .int .i64 0, .slice none 0 0, .slice none 0 0]) 4 64 Tryz.underlying25 hi4 hy0 hy1 hy2 rfl (by decide) _ (uniM j k i).length cs rfl (by exact HCSA.out) ⟨_, 0, none⟩ 1 1 [.bool true, .int .i64 (k : Int), .slice Av j cv, .slice none 0 0] rfl rfl (cell_four_new _ _ _ _ _ _) (by intro u hu; simp at hu; rcases hu with rfl | rfl | rfl | rfl <;> rfl) (by omega) (by have := HRL.out; unfold maxLen; omega) (by have := HRL.out; omega) (by have := HSZA.out; omega) _ rfl ?_; intro g4 cap4 W5 hown4 hgrow4 hat4 hlt4; have hcb5 : W5.heap[cb]? = some (.cells #[v] 27 (0, 0)) := (hgrow4.block cb (by have := HSZA.out; omega) (fun e => by have := (HRO.out _ e.symm).1; omega)).trans ((HBA2.out.block cb hcl3).trans hOut.out); have s0 : W5.cell? ⟨cb, 0, none⟩ = some v := cell_of_row _ _ 0 _ _ (0, 0) hcb5; have sf : W5.frozen? ⟨cb, 0, none⟩ = false := by simp [World.frozen?, hcb5])
          have hlow5 : ∀ q, q < cb + 1 → q ≠ cb → (W5.setCell ⟨cb, 0, none⟩ (.slice (some ⟨g4, 0, none⟩) ((uniM j k i).length + 1) cap4)).heap[q]? = wo.heap[q]? := fun q hq hn =>
            (Below.heap_setCell _ _ _ _ (by simpa using hn)).trans ((hgrow4.block q (by have := HSZA.out; omega) (fun e => by have := (HRO.out _ e.symm).1; omega)).trans (HBA2.out.block q (by omega)))
          have hown5 := hown4.kept (gset1 W5 ⟨cb, 0, none⟩ (.slice (some ⟨g4, 0, none⟩) ((uniM j k i).length + 1) cap4)) (.inr (by have h1 := (hown4.lt g4 rfl).1; simp [Value.ownBlock]; omega))
          have hrow5 := RowP.app (m := (true, uniT j k)) HCL.out hcn (fun q hq _ => hlow5 q (by omega) (by omega)) HTo.out hown5
          have hset5 : (W5.setCell ⟨cb, 0, none⟩ (.slice (some ⟨g4, 0, none⟩) ((uniM j k i).length + 1) cap4)).heap[cb]? = some (.cells #[.slice (some ⟨g4, 0, none⟩) ((uniM j k i).length + 1) cap4] 27 (0, 0)) := by
            simp [World.setCell, Array.getElem?_modify, hcb5]
          have hgr5 : Wc.grownBy (W5.setCell ⟨cb, 0, none⟩ (.slice (some ⟨g4, 0, none⟩) ((uniM j k i).length + 1) cap4)) (some cb) :=
            grown_at (gown (grown_trans hGw.out (grown_below HBA2.out)) ⟨hgrow4.os, hgrow4.tape, hgrow4.output, hgrow4.size, hgrow4.block⟩ (fun q hq => by have := (HRO.out q hq).1; omega)) 0 _
          rw [← HRS.out] at hrow5
          have HROW := Lib.hid hrow5
          have HSET := Lib.hid hset5
          have HGR := Lib.hid hgr5
          clear hlow5 hown5 hrow5 hset5 hgr5 hown4 hgrow4 hat4 hlt4 hcb5 s0 sf x0 x1 x2
          go_roundw
          case rel => exact ⟨i + 1, _, by omega, by go_num, HROW, HSET, HGR⟩
          case measure => simp [intOf]; omega
        · obtain rfl : j = i := by omega
          obtain ⟨Aw, cw, hv⟩ : ∃ A c, v = .slice A (uniM j k j).length c := by
            obtain ⟨A, c, h1⟩ := hRow.out.mems.slice
            exact ⟨A, c, h1⟩
          rw [uniM_len] at hv
          subst hv
          have c2 : wr.cell? ⟨cb, 0, none⟩ = some (.slice Aw j cw) := cell_of_row _ _ 0 _ _ (0, 0) hOut.out
          have HGA := Lib.hid (show W1.grownBy Wc (some (g + 1)) from HGC.out)
          have hres0 : Wc.heap[g]? = some (.cells #[.slice none 0 0] 27 (0, 0)) := (HGA.out.block g (by omega) (by simp)).trans K1.out
          have hres : wr.heap[g]? = some (.cells #[.slice none 0 0] 27 (0, 0)) := (hGw.out.block g (by omega) (by simp; omega)).trans hres0
          have z0 : wr.cell? ⟨g, 0, none⟩ = some (.slice none 0 0) := cell_of_row _ _ 0 _ _ (0, 0) hres
          have zf : wr.frozen? ⟨g, 0, none⟩ = false := by simp [World.frozen?, hres]
          have hset : (wr.setCell ⟨g, 0, none⟩ (.slice Aw j cw)).heap[g]? = some (.cells #[.slice Aw j cw] 27 (0, 0)) := by
            simp [World.setCell, Array.getElem?_modify, hres]
          have q0 : (wr.setCell ⟨g, 0, none⟩ (.slice Aw j cw)).cell? ⟨g, 0, none⟩ = some (.slice Aw j cw) := cell_of_row _ _ 0 _ _ (0, 0) hset
          have hms : MemsAt (fun _ => True) 1 (wr.setCell ⟨g, 0, none⟩ (.slice Aw j cw)) (.slice Aw j cw) (uniM j k j) := by
            exact (hRow.out.keep (fun q _ hq => Below.heap_setCell _ _ _ _ (by simp; omega))).mems
          have hbW : Below w.heap.size w (wr.setCell ⟨g, 0, none⟩ (.slice Aw j cw)) := by
            have h1 := HB.out
            rw [← HG.out] at h1
            have h2 := (h1.grown HGA.out h1.size (fun q hq => by obtain rfl := Option.some.inj hq; have := HG.out; omega))
            have h3 := h2.grown hGw.out h2.size (fun q hq => by obtain rfl := Option.some.inj hq; have := HG.out; omega)
            exact bset h3 (p := ⟨g, 0, none⟩) (by have := HG.out; show w.heap.size ≤ g; omega) _
          have HF := Lib.hid (And.intro hms hbW)
          have Q0 := Lib.hid q0
          clear hset q0 hms hbW hres
          go_wp2_with fail
          have q0 := Q0.out
          refine bodyPost_ret (v := .agg #[.slice Aw j cw]) ?_ rfl ⟨_, rfl, HF.out⟩
          simp [results, Tryz.results35, go_sem, q0]

end Go.Proofs.YtobdnepmjcbjeaaGreat

namespace Go.Proofs.YtobdnepmjcbjeaaGreat
set_option linter.unusedVariables false
open Go.RowKit

end Go.Proofs.YtobdnepmjcbjeaaGreat

namespace Go.Proofs.YtobdnepmjcbjeaaGreat
set_option linter.unusedVariables false
set_option linter.unusedSimpArgs false
open Go.RowKit

theorem nodes_new (W : World) (ns : List Int) : NodesAt (fun b => W.heap.size ≤ b) (W.alloc (.cells (ns.map (Value.int .i64)).toArray 3)) (.slice (some ⟨W.heap.size, 0, none⟩) ns.length ns.length) ns :=
  ⟨some ⟨W.heap.size, 0, none⟩, ns.length, rfl, fun k hk => ⟨W.heap.size, 0, rfl, Nat.le_refl _, by
    rw [cell_of_row _ _ (0 + k) _ _ (0, 0) (heap_alloc_new _ _), Nat.zero_add, List.getElem?_toArray, List.getElem?_map, List.getD_eq_getElem?_getD, List.getElem?_eq_getElem hk]; rfl⟩⟩
theorem bel43 : belV [3, 5, 6, 9, 10, 12] 4 = 1 := by decide +kernel
theorem tol43 {e : Ending} (h : TolOk (uniM 4 3 4) e) : e = .returned (.tuple #[.int .i64 1, .int .i64 1, .int .i64 0]) := by
  obtain ⟨l1, l2, q, h1, h2, h3, rfl⟩ := h
  rw [split43 h1, halt43 h2 h3, uniM_len, bel43]
def t43 : List Int := zs [3, 5, 6, 9, 10, 12]

set_option maxRecDepth 100000 in
set_option maxHeartbeats 4000000 in
theorem awake16 (w : World) : Calls Tryz.prog 14 #[] w fun e w' => e = .returned (.bool true) ∧ Below w.heap.size w w' := by
  have HOK := Lib.hid (uni_ok (n := 4) (k := 3) (by omega) (by omega) (by omega))
  have HLE := Lib.hid (show (uniM 4 3 4).length ≤ 7 by rw [uniM_len]; omega)
  have HSP := Lib.hid (fun P v w h => splitting_run P (uniM 4 3 4) v w HLE.out h HOK.out)
  have HHA := Lib.hid (fun P v w h => halting_run P (uniM 4 3 4) v w (by have := HLE.out; omega) h HOK.out)
  have HTO := Lib.hid (fun P v w h => tolerates_run P (uniM 4 3 4) v w HLE.out h HOK.out)
  have HL1 := Lib.hid (fun l h => split43 (l := l) h)
  have HL2 := Lib.hid (fun q l hq h => halt43 (q := q) (l := l) hq h)
  have HL3 := Lib.hid (fun e h => tol43 (e := e) h)
  clear HOK HLE
  go_enter Tryz.func14, Tryz.ntmps14
  go_wp2_with fail
  refine (same16_run 4 3 (by omega) (by omega) _).mono ?_
  rintro e w1 ⟨v1, rfl, hm1, hb1⟩
  have HB1 := Lib.hid hb1
  clear hb1
  go_wp2_with fail
  refine (HSP.out _ _ _ hm1.up).mono ?_
  rintro e w2 ⟨v2, l, rfl, ho2, hl2, hb2⟩
  obtain rfl := HL1.out l hl2
  have HB2 := Lib.hid (bstep HB1.out hb2)
  have HN2 := Lib.hid (NodesAt.of_ownZ ho2)
  obtain ⟨A2, c2, hv2⟩ := own_slice ho2
  subst hv2
  clear ho2 hl2 hb2 hm1 HB1 HL1 HSP
  go_wp2_with fail
  refine (same16_run 4 3 (by omega) (by omega) _).mono ?_
  rintro e w3 ⟨v3, rfl, hm3, hb3⟩
  have HB3 := Lib.hid (bstep HB2.out hb3)
  have HN3 := Lib.hid (HN2.out.below hb3)
  clear hb3 HB2 HN2
  go_wp2_with fail
  refine (HHA.out _ _ _ hm3.up).mono ?_
  rintro e w4 ⟨v4, l, q, rfl, ho4, hq4, hl4, hb4⟩
  obtain rfl := HL2.out q l hq4 hl4
  have HB4 := Lib.hid (bstep HB3.out hb4)
  have HN4 := Lib.hid (HN3.out.below hb4)
  have HM4 := Lib.hid (NodesAt.of_ownZ ho4)
  obtain ⟨A4, c4, hv4⟩ := own_slice ho4
  subst hv4
  clear ho4 hl4 hq4 hb4 hm3 HB3 HL2 HHA HN3
  go_wp2_with fail
  refine (same16_run 4 3 (by omega) (by omega) _).mono ?_
  rintro e w5 ⟨v5, rfl, hm5, hb5⟩
  have HB5 := Lib.hid (bstep HB4.out hb5)
  have HN5 := Lib.hid (HN4.out.below hb5)
  have HM5 := Lib.hid (HM4.out.below hb5)
  clear hb5 HB4 HN4 HM4
  go_wp2_with fail
  refine (HTO.out _ _ _ hm5.up).mono ?_
  rintro e w6 ⟨he, hb6⟩
  obtain rfl := HL3.out e he
  have HB6 := Lib.hid (bstep HB5.out hb6)
  have HN6 := Lib.hid (HN5.out.below hb6)
  have HM6 := Lib.hid (HM5.out.below hb6)
  clear hb6 hm5 HB5 HL3 HTO HN5 HM5 he
  go_wp2_with fail
  have hb7 := balloc (bref w6) (.cells #[.int .i64 3, .int .i64 5, .int .i64 6, .int .i64 9, .int .i64 10, .int .i64 12] 3)
  have HB7 := Lib.hid (bstep HB6.out hb7)
  have HP7 := Lib.hid (HM6.out.below hb7)
  have HQ7 := Lib.hid (HN6.out.below hb7)
  refine (ints_run _ _ _ _ [3, 5, 6, 9, 10, 12] _ (by simp) (HN6.out.below hb7) (nodes_new w6 [3, 5, 6, 9, 10, 12])).mono ?_
  rintro e w8 ⟨rfl, hb8⟩
  have HB8 := Lib.hid (bstep HB7.out hb8)
  have HP8 := Lib.hid (HP7.out.below hb8)
  have HQ8 := Lib.hid (HQ7.out.below hb8)
  clear hb7 hb8 HB7 HP7 HB6 HN6 HM6 HQ7
  go_wp2_with fail
  refine (ints_run _ _ _ _ [3, 5, 6, 9, 10, 12] _ (by simp) HP8.out HQ8.out).mono ?_
  rintro e w9 ⟨rfl, hb10⟩
  have HB10 := Lib.hid (bstep HB8.out hb10)
  clear hb10
  go_wp2_with fail
  go_ret
  exact ⟨rfl, HB10.out⟩
end Go.Proofs.YtobdnepmjcbjeaaGreat

namespace Go.Proofs.YtobdnepmjcbjeaaGreat
set_option linter.unusedVariables false
set_option linter.unusedSimpArgs false
open Go.RowKit

theorem own_grown {w W W2 : World} {sb : Nat} {v : Value} {n : Nat} {vs : List Value} (h : W.ownsRow w.heap.size 3 1 v n vs) (hs : sb < w.heap.size) (hg : W.grownBy W2 (some sb)) : W2.ownsRow w.heap.size 3 1 v n vs := by
  refine ⟨h.1, ?_⟩
  rcases h.2 with h2 | ⟨gg, cap, cur, e1, e2, e3, e4⟩
  · exact .inl h2
  · exact .inr ⟨gg, cap, cur, e1, e2, (hg.block gg (Array.getElem?_eq_some_iff.1 e3).1 (by simp; omega)).trans e3, e4⟩

theorem grown_more {w W W' : World} {r : Option Nat} {sb : Nat} (h : w.grownBy W (some sb)) (hg : W.grownBy W' r) (hr : ∀ j, r = some j → w.heap.size ≤ j) : w.grownBy W' (some sb) :=
  ⟨hg.os.trans h.os, hg.tape.trans h.tape, hg.output.trans h.output, Nat.le_trans h.size hg.size, fun k hk hne => (hg.block k (Nat.lt_of_lt_of_le hk h.size) (fun e => by have := hr k (by first | exact e | exact e.symm); omega)).trans (h.block k hk hne)⟩

theorem nlt_zero (k : Nat) (h : ¬ 0 < k) : k = 0 := by omega

set_option maxHeartbeats 1000000 in
theorem mkin_run (P : Nat → Prop) (v : Value) (ls : List Nat) (x : Nat) (w : World) (hl : ls.length ≤ 1000000) (hN : NodesAt P w v (zs ls)) :
    Calls Tryz.prog 22 #[v, .int .i64 (x : Int)] w fun e w' => e = .returned (.bool (decide (x ∈ ls))) ∧ Below w.heap.size w w' := by
  obtain ⟨A, c, rfl, hN2⟩ := hN
  rw [zs_len] at hN2 ⊢
  have H := Lib.hid hN2
  clear hN2
  go_enter Tryz.func22, Tryz.ntmps22
  go_wp2_with fail
  go_loopw [9] (fun t W => ∃ k : Nat, k ≤ ls.length ∧ t = .int .i64 k ∧ Hid (x ∉ ls.take k) ∧ Hid (Below w.heap.size w W)) (fun t _ => ls.length - (intOf t).toNat)
  case atStart => exact ⟨0, Nat.zero_le _, rfl, Lib.hid (by simp), Lib.hid (bref _)⟩
  case round =>
    obtain ⟨k, hk, rfl, hA, hB⟩ := hrel
    by_cases hlt : k < ls.length
    · obtain ⟨b, off, rfl, hPb, hcc⟩ := H.out k hlt
      have hx0 : ls[k]? = some (ls.getD k 0) := by rw [List.getD_eq_getElem?_getD, List.getElem?_eq_getElem hlt]; rfl
      have hxm := List.mem_of_getElem? hx0
      rw [zs_get] at hcc
      have hc2 := (World.cell?_of_block (a := ⟨b, off + k, none⟩) (hB.out.block b (cell_lt hcc))).trans hcc
      have HTK := Lib.hid (show ls.take (k + 1) = ls.take k ++ [ls.getD k 0] by rw [List.take_add_one, hx0]; rfl)
      clear hx0 hPb hcc
      generalize ls.getD k 0 = y at *
      by_cases hxy : x = y
      · subst hxy
        have HV := Lib.hid (decide_eq_true hxm)
        clear hxm
        go_wp2_with fail
        go_ret
        exact ⟨by rw [HV.out]; rfl, by first | exact hB.out | exact bdrew hB.out⟩
      · have HA2 := Lib.hid (show x ∉ ls.take (k + 1) by rw [HTK.out, List.mem_append, List.mem_singleton]; exact fun h => h.elim hA.out hxy)
        have hne : ((x : Int) == (y : Int)) = false := by rw [beq_eq_false_iff_ne]; omega
        clear hxm
        go_wp2_with fail
        go_roundw
        case rel => exact ⟨k + 1, hlt, by go_num, HA2, by first | exact hB | exact Lib.hid (bdrew hB.out)⟩
        case measure => simp [intOf]; omega
    · obtain rfl : k = ls.length := by omega
      have HV := Lib.hid (decide_eq_false (show x ∉ ls by have := hA.out; rwa [List.take_length] at this))
      go_wp2_with fail
      go_ret
      exact ⟨by rw [HV.out]; rfl, hB.out⟩

end Go.Proofs.YtobdnepmjcbjeaaGreat

namespace Go.Proofs.YtobdnepmjcbjeaaGreat
set_option linter.unusedVariables false
set_option linter.unusedSimpArgs false
open Go.RowKit

structure SMade (w : World) (sb g : Nat) (v : Value) (ms : List Mem) (W : World) : Prop where
  tape : TapeOk W sb
  out : W.heap[g]? = some (.cells #[v] 27 (0, 0))
  mems : MemsAt (fun b => sb < b) 2 W v ms
  low : sb < g
  gr : w.grownBy W (some sb)

theorem SMade.lt {w W : World} {sb g : Nat} {v : Value} {ms : List Mem} (h : SMade w sb g v ms W) : g < W.heap.size := by
  rcases Nat.lt_or_ge g W.heap.size with h1 | h1
  · exact h1
  · have := h.out; rw [Array.getElem?_eq_none h1] at this; cases this

theorem SMade.cell {w W : World} {sb g : Nat} {v : Value} {ms : List Mem} (h : SMade w sb g v ms W) : W.cell? ⟨g, 0, none⟩ = some v := cell_of_row _ _ 0 _ _ (0, 0) h.out

theorem SMade.bel {w W W' : World} {sb g : Nat} {v : Value} {ms : List Mem} (h : SMade w sb g v ms W) (hb : Below W.heap.size W W') : SMade w sb g v ms W' :=
  ⟨h.tape.below hb, (hb.block _ h.lt).trans h.out, h.mems.below hb, h.low, grown_trans h.gr (grown_below hb)⟩

theorem SMade.grown {w W W' : World} {sb g : Nat} {v : Value} {ms : List Mem} (h : SMade w sb g v ms W) (hs : TapeOk W' sb) (hg : W.grownBy W' (some sb)) : SMade w sb g v ms W' :=
  ⟨hs, (hg.block _ h.lt (by have := h.low; simp; omega)).trans h.out, h.mems.both (fun q hq hP => hg.block q hq (by simp; omega)) (fun _ _ h => h), h.low, grown_trans h.gr hg⟩

theorem SMade.keeps {w W : World} {sb g : Nat} {v : Value} {ms : List Mem} (h : SMade w sb g v ms W) : W.cell? ⟨g, 0, none⟩ = some v ∧ SMade w sb g v ms W := ⟨h.cell, h⟩

theorem keepZ {w W W' : World} {sb g : Nat} {v : Value} {ms : List Mem} (h : W.cell? ⟨g, 0, none⟩ = some v ∧ SMade w sb g v ms W) (hb : Below W.heap.size W W') : W'.cell? ⟨g, 0, none⟩ = some v ∧ SMade w sb g v ms W' := (h.2.bel hb).keeps

theorem growZ {w W W' : World} {sb g : Nat} {v : Value} {ms : List Mem} (h : W.cell? ⟨g, 0, none⟩ = some v ∧ SMade w sb g v ms W) (hs : TapeOk W' sb) (hg : W.grownBy W' (some sb)) : W'.cell? ⟨g, 0, none⟩ = some v ∧ SMade w sb g v ms W' := (h.2.grown hs hg).keeps

theorem tapeZ {w W : World} {sb g : Nat} {v : Value} {ms : List Mem} (h : W.cell? ⟨g, 0, none⟩ = some v ∧ SMade w sb g v ms W) : TapeOk W sb := h.2.tape

theorem memsZ {w W : World} {sb g : Nat} {v : Value} {ms : List Mem} (h : W.cell? ⟨g, 0, none⟩ = some v ∧ SMade w sb g v ms W) : MemsAt (fun b => sb < b) 2 W v ms := h.2.mems

theorem or_mul (s q a : Nat) (hs : s < 1024) (hq : q < 1024) (ha : a < 2) : ∃ r : Nat, r < 1024 ∧ bits .or .i64 (s : Int) (IntKind.i64.wrap ((q : Int) * (a : Int))) = (r : Int) := by
  rcases a with _ | a
  · refine ⟨s ||| 0, by simpa using hs, ?_⟩
    rw [show IntKind.i64.wrap ((q : Int) * ((0 : Nat) : Int)) = ((0 : Nat) : Int) by simp; rfl]
    exact i64_or_nat s 0 (by omega) (by omega)
  · obtain rfl : a = 0 := by omega
    refine ⟨s ||| q, Nat.or_lt_two_pow (n := 10) hs hq, ?_⟩
    rw [show IntKind.i64.wrap ((q : Int) * ((0 + 1 : Nat) : Int)) = ((q : Nat) : Int) by rw [IntWalk.i64_in _ (by push_cast; omega)]; push_cast; omega]
    exact i64_or_nat s q (by omega) (by omega)

set_option maxRecDepth 100000 in
set_option maxHeartbeats 4000000 in
theorem mkSet_run (sb : Nat) (ms : List Mem) (v : Value) (w : World) (hl0 : 1 ≤ ms.length) (hl : ms.length ≤ 10) (hs : TapeOk w sb) (h : MemsAt (fun b => sb < b) 2 w v ms) :
    Calls Tryz.prog 15 #[.pointer (some ⟨sb, 0, none⟩), .agg #[v]] w fun e w' => ∃ r : Nat, e = .returned (.int .i64 (r : Int)) ∧ r < 1024 ∧ TapeOk w' sb ∧ w.grownBy w' (some sb) := by
  obtain ⟨A, c, rfl⟩ := h.slice
  obtain ⟨L, hL⟩ : ∃ L, ms.length = L := ⟨_, rfl⟩
  rw [hL] at h hl0 hl ⊢
  have hba := balloc (bref w) (.cells #[.slice A L c] 27)
  have HM := Lib.hid (show SMade w sb w.heap.size (.slice A L c) ms (w.alloc (.cells #[.slice A L c] 27)) from ⟨hs.alloc _, alloc_at rfl, h.below hba, hs.lt, grown_below hba⟩)
  have HL := Lib.hid hL
  clear h hs hba hL
  go_enter Tryz.func15, Tryz.ntmps15
  go_upto_region 1 with fail
  generalize w.alloc (.cells #[.slice A L c] 27) = W1 at *
  generalize w.heap.size = g at *
  have c0 := HM.out.cell
  go_upto_region 3 with fail
  have hp5 : ∀ j, j < 5 → (W1.alloc (.cells #[.int .i64 0, .int .i64 1, .int .i64 1, .int .i64 2, .int .i64 3] 3)).cell? ⟨W1.heap.size, j, none⟩ = some (.int .i64 (([0, 1, 1, 2, 3] : List Int).getD j 0)) := by
    intro j hj
    rw [cell_of_row _ _ j _ _ (0, 0) (heap_alloc_new _ _)]
    match j, hj with
    | 0, _ | 1, _ | 2, _ | 3, _ | 4, _ => rfl
  have HP5 := Lib.hid hp5
  have hsb : W1.heap.size ≠ sb := by have := HM.out.tape.lt; omega
  clear hp5 c0
  go_wp2_with fail
  refine (TPick_run _ sb W1.heap.size [0, 1, 1, 2, 3] 5 rfl (by omega) (by omega) HP5.out hsb (HM.out.tape.alloc _)).mono ?_
  rintro e W2 ⟨j, hj, rfl, hs1, hg1⟩
  obtain ⟨q, hq, hq3⟩ : ∃ q : Nat, ([0, 1, 1, 2, 3] : List Int).getD j 0 = (q : Int) ∧ q ≤ 3 := by
    match j, hj with
    | 0, _ => exact ⟨0, rfl, by omega⟩
    | 1, _ => exact ⟨1, rfl, by omega⟩
    | 2, _ => exact ⟨1, rfl, by omega⟩
    | 3, _ => exact ⟨2, rfl, by omega⟩
    | 4, _ => exact ⟨3, rfl, by omega⟩
  rw [hq]
  have H2 := Lib.hid ((HM.out.bel (balloc (bref W1) (.cells #[.int .i64 0, .int .i64 1, .int .i64 1, .int .i64 2, .int .i64 3] 3))).grown hs1 hg1)
  clear hq hj hs1 hg1 HP5 hsb
  go_wp2_with fail
  go_loopw [6, 7] (fun sv t W => ∃ (s q : Nat), sv = .int .i64 (s : Int) ∧ t = .int .i64 (q : Int) ∧ s < 1024 ∧ q ≤ 3 ∧ Hid (SMade w sb g (.slice A L c) ms W)) (fun _ t _ => (intOf t).toNat)
  case atStart => exact ⟨0, q, rfl, rfl, by omega, hq3, H2⟩
  case round =>
    obtain ⟨s, q, rfl, rfl, hs, hq, hM⟩ := hrel
    by_cases hpos : 0 < q
    · have hqi : (0 : Int) < (q : Int) := by omega
      go_wp2_with fail
      refine (TN_run _ sb _ (by omega) (by omega) hM.out.tape).mono ?_
      rintro e W3 ⟨r, hr0, hr1, rfl, hs3, hg3⟩
      obtain ⟨K, rfl⟩ := Int.eq_ofNat_of_zero_le hr0
      have H3 := Lib.hid (hM.out.grown hs3 hg3)
      have HOR := Lib.hid (shl_or s K hs (by omega))
      have hso : s ||| 2 ^ K < 1024 := Nat.or_lt_two_pow (n := 10) hs (Nat.pow_lt_pow_right (by omega) (by omega))
      have hk0 : (0 : Int) ≤ (K : Int) := by omega
      have hk64 : (K : Int) < 64 := by omega
      clear hs3 hg3 hM
      go_wp2_with fail
      rw [HOR.out]
      go_roundw
      case rel => exact ⟨s ||| 2 ^ K, q - 1, rfl, by go_num, hso, by omega, H3⟩
      case measure => simp [intOf]; omega
    · obtain rfl : q = 0 := by omega
      clear hpos
      go_upto_region 7 with fail
      have hp := pow11' L (by omega)
      obtain ⟨N, hN⟩ : ∃ N, 2 ^ L = N := ⟨_, rfl⟩
      have hpL : 2 ^ L ≤ 2 ^ 10 := Nat.pow_le_pow_right (by omega) hl
      have hpp : 1 ≤ 2 ^ L := Nat.one_le_pow _ _ (by omega)
      rw [hN] at hp hpL hpp
      have hw1 : IntKind.i64.wrap ((N : Int) - 1) = ((N - 1 : Nat) : Int) := (IntWalk.i64_in _ (by omega)).trans (by omega)
      have hdl := declS_lt ms ms.length (by rw [HL.out]; exact hl)
      have hand := andNot_nat (N - 1) (declS ms ms.length) (by omega) hdl
      have HQL := Lib.hid (show (N - 1) ^^^ ((N - 1) &&& declS ms ms.length) < 1024 from Nat.xor_lt_two_pow (n := 10) (by omega) (Nat.lt_of_le_of_lt Nat.and_le_left (by omega)))
      obtain ⟨D, hD⟩ : ∃ D, declS ms ms.length = D := ⟨_, rfl⟩
      have HD := Lib.hid hD
      rw [hD] at hand HQL
      generalize (N - 1) ^^^ ((N - 1) &&& D) = Q at *
      generalize N - 1 = n1 at *
      have HLL := Lib.hid (show ms.length ≤ 10 by rw [HL.out]; exact hl)
      clear hN hD hdl
      have hS := Lib.hid (hM.out.bel ⟨rfl, rfl, rfl, Nat.le_refl _, fun _ _ => rfl⟩ : SMade w sb g (.slice A L c) ms wr.drew).keeps
      go_region_held3 (fun W => W.cell? ⟨g, 0, none⟩ = some (.slice A L c) ∧ SMade w sb g (.slice A L c) ms W) (first | exact hS.out | exact hSK | exact keepZ (by assumption) hbK | go_keep)
        (first
          | (go_at_call 12; refine (TN_run _ _ _ (by omega) (by omega) (by exact tapeZ (by assumption))).mono ?_; rintro e WK ⟨r, hr0, hr1, rfl, hsK, hgK⟩; obtain ⟨a, rfl⟩ := Int.eq_ofNat_of_zero_le hr0; have hSK := growZ (by assumption) hsK hgK)
          | (go_at_call 38; refine (rdeclared_run _ 2 ms _ _ HLL.out (by exact memsZ (by assumption))).mono ?_; rintro e WK ⟨rfl, hbK⟩; rw [HD.out]; have hSK := keepZ (by assumption) hbK))
      all_goals
        obtain ⟨R, hR, hRe⟩ := or_mul s Q a hs HQL.out (by omega)
        have HZ := Lib.hid (And.intro hR (And.intro hSK.2.tape hSK.2.gr))
        have HRE := Lib.hid hRe
        clear hRe hSK
        go_wp2_with fail
        go_ret
        exact ⟨R, by first | rfl | (rw [HRE.out]; rfl), HZ.out⟩

end Go.Proofs.YtobdnepmjcbjeaaGreat
