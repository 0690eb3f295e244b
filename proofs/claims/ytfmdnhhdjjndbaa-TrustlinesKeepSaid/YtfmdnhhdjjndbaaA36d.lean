/- Package accounts: Create, where the new account comes last. -/
import Derived.Test.YtfmdnhhdjjndbaaA36b
import Derived.Test.YtfmdnhhdjjndbaaL38c
import Derived.Deep.Onto
namespace Go.Proofs.Ytfmdnhhdjjndbaa
set_option linter.unusedVariables false
set_option linter.unusedSimpArgs false
open Go.RowKit

/-- What stands in the slots of the two operations that make memory. -/
def AccR (B : Nat) (L : List Acc) (o : Acc) (j : Nat) (W : World) (v : Value) : Prop := if j = 1 then W.ownsRow B 34 3 v L.length (flatS encA L) else ∃ q, v = .slice (some ⟨q, 0, none⟩) 1 1 ∧ q < W.heap.size ∧ ∀ k u, (encA o)[k]? = some u → W.cell? ⟨q, k, none⟩ = some u

theorem AccR.mono {B : Nat} {L : List Acc} {o : Acc} {j : Nat} {W W' : World} {v : Value} (h : AccR B L o j W v) (hb : Below W.heap.size W W') : AccR B L o j W' v := by
  unfold AccR at *
  split at h
  · rename_i e; rw [if_pos e]; exact own_below h hb
  · rename_i e
    rw [if_neg e]
    obtain ⟨q, h1, h2, h3⟩ := h
    exact ⟨q, h1, Nat.lt_of_lt_of_le h2 hb.size, fun k u hu => (hb.cell (p := ⟨q, k, none⟩) h2).trans (h3 k u hu)⟩

set_option maxHeartbeats 1000000 in
theorem create1_run (i : Int) (tb : Nat) (a : Acc) (w : World) (h : w.cell? ⟨tb, 0, none⟩ = some (.int .i64 i)) :
    Calls Try.prog 44 #[.agg #[.int .i64 a.id, .int .i64 a.bal, .int .i64 a.seq], .pointer (some ⟨tb, 0, none⟩)] w fun e w' => e = .returned (.bool (decide (i < a.id))) ∧ Below w.heap.size w w' := by
  have hl := cell_lt h
  have hl' : tb < w.heap.size := hl
  go_enter Try.func44, Try.ntmps44
  go_wp2_with fail
  go_ret
  exact ⟨rfl, balloc (bref _) _⟩

set_option maxRecDepth 100000 in
set_option maxHeartbeats 4000000 in
theorem insA_run (B : Nat) (L : List Acc) (o : Acc) (g cap q : Nat) (w : World) (hlen : L.length ≤ 1000) (hown : w.ownsRow B 34 3 (.slice (some ⟨g, 0, none⟩) L.length cap) L.length (flatS encA L)) (hB : B ≤ w.heap.size)
    (hq : ∀ k u, (encA o)[k]? = some u → w.cell? ⟨q, k, none⟩ = some u) :
    Calls Try.prog 45 #[.slice (some ⟨g, 0, none⟩) L.length cap, .int .i64 (L.length : Int), .slice (some ⟨q, 0, none⟩) 1 1] w fun e w' => ∃ v', e = .returned v' ∧ w'.ownsRow B 34 3 v' (L.length + 1) (flatS encA L ++ encA o) ∧ w.grownBy w' (some g) := by
  obtain ⟨i0, hi, hz0, hz1, hz2⟩ := info_parts infoA
  have HO := Lib.hid hown
  have HQ := Lib.hid hq
  have h1 := hown.1
  obtain ⟨n, hn⟩ : ∃ n, L.length = n := ⟨_, rfl⟩
  obtain ⟨fl, hfl⟩ : ∃ fl, flatS encA L = fl := ⟨_, rfl⟩
  have hcap : n ≤ cap := by
    rcases hown.2 with ⟨e, _⟩ | ⟨g', cap', cur, e, _, _, hnc, _⟩
    · cases e
    · cases e
      rw [← hn]; exact hnc
  rw [hn] at HO hlen ⊢
  rw [hfl] at HO ⊢
  clear hown hq hn hfl h1
  go_enter Try.func45, Try.ntmps45
  rcases Decidable.em (cap = n) with hcn | hcn
  · go_wp2_with (at_builtin; refine wpList_append_own _ rfl _ _ 25 rfl B 34 i0 (.agg #[.int .i64 0, .int .i64 0, .int .i64 0]) 3 24 Try.underlying25 hi hz0 hz1 hz2 rfl (by decide) _ _ _ rfl HO.out ⟨q, 0, none⟩ 1 1 (encA o) rfl rfl (fun j u hu => by rw [Addr.add_lit, Nat.zero_add]; exact HQ.out j u hu) (fun u hu => encA_one o u hu) (by unfold maxLen; omega) (by omega) hB ?_; intro v' w1 hown' hgrow hnil)
    have HO1 := Lib.hid hown'
    have HG1 := Lib.hid hgrow
    clear hown' hgrow hnil
    go_wp2_with fail
    go_ret
    exact ⟨_, rfl, HO1.out, HG1.out⟩
  · go_wp2_with (at_builtin; refine wpList_append_own _ rfl _ _ 25 rfl B 34 i0 (.agg #[.int .i64 0, .int .i64 0, .int .i64 0]) 3 24 Try.underlying25 hi hz0 hz1 hz2 rfl (by decide) _ _ _ rfl HO.out ⟨q, 0, none⟩ 1 1 (encA o) rfl rfl (fun j u hu => by rw [Addr.add_lit, Nat.zero_add]; exact HQ.out j u hu) (fun u hu => encA_one o u hu) (by unfold maxLen; omega) (by omega) hB ?_; intro v' w1 hown' hgrow hnil)
    have HO1 := Lib.hid hown'
    have HG1 := Lib.hid hgrow
    clear hown' hgrow hnil
    go_wp2_with fail
    go_ret
    exact ⟨_, rfl, HO1.out, HG1.out⟩

set_option maxRecDepth 100000 in
set_option maxHeartbeats 8000000 in
theorem acreate_run (P : Nat → Prop) (L : List Acc) (i b : Int) (v : Value) (w : World) (hok : AccsOk L) (hl0 : 0 < L.length) (hl1 : L.length < 20) (hi1 : 1 ≤ i) (hi2 : i ≤ 1000) (hb0 : 0 ≤ b) (hb1 : b ≤ 1000000000000)
    (hall : ∀ (k : Nat) (a : Acc), L[k]? = some a → a.id < i) (h : AccAt P w v L) :
    Calls Try.prog 17 #[v, .int .i64 i, .int .i64 b] w fun e w' => ∃ v', e = .returned (.tuple #[v', .int .i64 0]) ∧ ChgOk w w' 0 v' (L ++ [⟨i, b, 0⟩]) := by
  obtain ⟨A, c, rfl, hc, hm⟩ := h.slice
  have hlen := hok.len
  have hba := balloc (bref w) (.cells #[.int .i64 i] 3)
  have hz : w.heap.size < (w.alloc (.cells #[.int .i64 i] 3)).heap.size := by simp
  have k0 : (w.alloc (.cells #[.int .i64 i] 3)).cell? ⟨w.heap.size, 0, none⟩ = some (.int .i64 i) := row_new w #[.int .i64 i] 3 0
  have hno : ¬ findA i L < L.length := by
    intro hlt
    have h1 := List.findIdx_getElem (p := fun a : Acc => decide (a.id = i)) (xs := L) (w := hlt)
    have h2 := hall _ _ (List.getElem?_eq_getElem hlt)
    have h3 : (L[findA i L]).id = i := of_decide_eq_true h1
    omega
  have HCK := Lib.hid (fun W (hW : Below w.heap.size w W) => acheck_run P L _ W hok (h.below hW))
  have HIX := Lib.hid (fun W (hW : Below w.heap.size w W) => index_run P L i _ W (by omega) (h.below hW))
  rw [atA_no hno] at HIX
  have HXF := Lib.hid (fun W (hW : Below w.heap.size w W) (hk : W.cell? ⟨w.heap.size, 0, none⟩ = some (.int .i64 i)) (hl : w.heap.size < W.heap.size) => ixA_run P 44 #[.pointer (some ⟨w.heap.size, 0, none⟩)] (fun a => decide (i < a.id)) L _ W (by omega) (h.below hW) (fun _ _ => rfl) (fun a W' hW' => create1_run i w.heap.size a W' ((hW'.cell (p := ⟨w.heap.size, 0, none⟩) hl).trans hk)))
  rw [show ixG (fun a : Acc => decide (i < a.id)) L = -1 from ixG_no (fun j a ha => decide_eq_false (by have := hall j a ha; omega))] at HXF
  have HFL := Lib.hid (fun W (hW : Below w.heap.size w W) => flatA_run P _ L W (by omega) (h.below hW))
  have HINS := Lib.hid (fun B g cap q W h2 h3 h4 => insA_run B L ⟨i, b, 0⟩ g cap q W (by omega) h2 h3 h4)
  have HBA := Lib.hid hba
  have hv := okI_yes hb0 hb1
  obtain ⟨n, hn⟩ : ∃ n, L.length = n := ⟨_, rfl⟩
  have HN := Lib.hid hn
  rw [hn] at HCK HIX HXF HFL HINS hl0 hl1 hc ⊢
  clear h hok hn hno hall hba hlen
  go_enter Try.func17, Try.ntmps17
  go_wp2_with fail
  refine (HCK.out _ HBA.out).mono ?_
  rintro e w1 ⟨rfl, hb1'⟩
  have HB1 := Lib.hid (bstep HBA.out hb1')
  have k1 := (hb1'.cell (p := ⟨w.heap.size, 0, none⟩) hz).trans k0
  have hz1 := Nat.lt_of_lt_of_le hz hb1'.size
  clear hb1' k0 hz HBA
  go_wp2_with fail
  refine (isID_yes _ _ hi1 hi2).mono ?_
  rintro e w1b ⟨rfl, rfl⟩
  go_wp2_with fail
  refine (HIX.out _ HB1.out).mono ?_
  rintro e w2 ⟨rfl, hb2⟩
  have HB2 := Lib.hid (bstep HB1.out hb2)
  have k2 := (hb2.cell (p := ⟨w.heap.size, 0, none⟩) hz1).trans k1
  have hz2 := Nat.lt_of_lt_of_le hz1 hb2.size
  clear hb2 k1 hz1 HB1
  go_wp2_with (go_at_call 42; refine (valid_any _ _).mono ?_; rintro e w2b ⟨rfl, rfl⟩)
  refine (HXF.out _ HB2.out k2 hz2).mono ?_
  rintro e w3 ⟨r, rfl, hr, hb3⟩
  obtain rfl := hr.out
  have HB3 := Lib.hid (bstep HB2.out hb3)
  have k3 := (hb3.cell (p := ⟨w.heap.size, 0, none⟩) hz2).trans k2
  have hz3 := Nat.lt_of_lt_of_le hz2 hb3.size
  clear hb3 k2 hz2 HB2 hr
  go_upto_region 12 with fail
  obtain ⟨B0, hB0⟩ : ∃ B0, w3.heap.size = B0 := ⟨_, rfl⟩
  have hzl : w.heap.size < B0 := by omega
  have hS : Cs [(⟨w.heap.size, 0, none⟩, .int .i64 i)] w3.drew ∧ Below w.heap.size w w3.drew ∧ B0 ≤ w3.drew.heap.size := ⟨⟨k3, trivial⟩, bdrew HB3.out, by rw [← hB0]; exact Nat.le_refl _⟩
  refine region_f (fun W => Cs [(⟨w.heap.size, 0, none⟩, .int .i64 i)] W ∧ Below w.heap.size w W ∧ B0 ≤ W.heap.size) [] (by kernel_rfl) ?_
  have hSK := hS
  clear hS k3 hz3 hB0
  refine take_y (some 38) (i := 0) (v := ?_) rfl rfl (by kernel_rfl) (by kernel_rfl) (by kernel_rfl) (fun _ _ _ h => h) (Or.inl ⟨by rfl, ?_⟩) ?_
  rotate_left
  · intro w _; go_simp; (try with_reducible rfl)
  try simp only [Act.put, List.setIfInBounds_toArray, List.set_cons_zero, List.set_cons_succ]
  refine take_y (some 40) (i := 2) (v := ?_) rfl rfl (by kernel_rfl) (by kernel_rfl) (by kernel_rfl) (fun _ _ _ h => h) (Or.inl ⟨by rfl, ?_⟩) ?_
  rotate_left
  · intro w _; go_simp; (try with_reducible rfl)
  try simp only [Act.put, List.setIfInBounds_toArray, List.set_cons_zero, List.set_cons_succ]
  refine take_f (some 41) [5, 6, 7, 8, 9] (i := 3) (v := ?_) rfl rfl (by kernel_rfl) (by kernel_rfl) (by kernel_rfl) (by kernel_rfl) (fun _ _ _ h => h) (Or.inl ⟨by rfl, ?_⟩) (by assumption) ?_
  rotate_left
  · intro w hSw; (dsimp only [Cs] at hSw); go_simp; (try with_reducible rfl)
  try simp only [Act.put, List.setIfInBounds_toArray, List.set_cons_zero, List.set_cons_succ]
  refine take_y (some 42) (i := 4) (v := ?_) rfl rfl (by kernel_rfl) (by kernel_rfl) (by kernel_rfl) (fun _ _ _ h => h) (Or.inl ⟨by rfl, ?_⟩) ?_
  rotate_left
  · intro w _; go_simp; (try with_reducible rfl)
  try simp only [Act.put, List.setIfInBounds_toArray, List.set_cons_zero, List.set_cons_succ]
  refine take_y (some 43) (i := 5) (v := ?_) rfl rfl (by kernel_rfl) (by kernel_rfl) (by kernel_rfl) (fun _ _ _ h => h) (Or.inl ⟨by rfl, ?_⟩) ?_
  rotate_left
  · intro w _; go_simp; (try with_reducible rfl)
  try simp only [Act.put, List.setIfInBounds_toArray, List.set_cons_zero, List.set_cons_succ]
  refine phaseP [(1, 39), (6, 44)] 3 (AccR B0 L ⟨i, b, 0⟩) (fun W => Cs [(⟨w.heap.size, 0, none⟩, .int .i64 i)] W ∧ Below w.heap.size w W ∧ B0 ≤ W.heap.size) (fun W W' => Below W.heap.size W W') (by decide) (by decide) (by kernel_rfl) (fun j _ W W' v h hb => h.mono hb) ?hstep (fun _ h => h) ?hend hSK
  case hstep =>
    intro x hx f W hG hd
    simp only [List.mem_cons, List.not_mem_nil, or_false] at hx
    rcases hx with rfl | rfl
    · simp only [putL, Act.put, List.setIfInBounds_toArray, List.set_cons_zero, List.set_cons_succ]
      refine wpOp_step rfl (fun K' hK => ?_)
      have HKK := Lib.hid hK
      have HGG := Lib.hid hG
      clear hK hG hd hSK
      go_simp
      refine (HFL.out _ HGG.out.2.1).mono ?_
      rintro e W' ⟨v', rfl, hown', hbW⟩
      go_wp2_with fail
      exact HKK.out _ _ ⟨v', rfl, ⟨HGG.out.1.below hbW, bstep HGG.out.2.1 hbW, Nat.le_trans HGG.out.2.2 hbW.size⟩, by unfold AccR; rw [if_pos rfl, HN.out]; exact World.ownsRow.mono hown' HGG.out.2.2, hbW⟩
    · simp only [putL, Act.put, List.setIfInBounds_toArray, List.set_cons_zero, List.set_cons_succ]
      refine wpOp_step rfl (fun K' hK => ?_)
      have HKK := Lib.hid hK
      have HGG := Lib.hid hG
      clear hK hG hd hSK
      go_simp
      exact HKK.out _ _ ⟨.slice (some ⟨W.heap.size, 0, none⟩) 1 1, rfl, ⟨HGG.out.1.alloc _, balloc HGG.out.2.1 _, by rw [alloc_szS]; exact Nat.le_succ_of_le HGG.out.2.2⟩, by unfold AccR; rw [if_neg (by decide)]; exact ⟨W.heap.size, rfl, by simp, fun k u hu => (row_new W _ _ k).trans (by simpa [encA] using hu)⟩, balloc (bref _) _⟩
  case hend =>
    intro f W hG hR
    have hR1 := hR 1 (by decide)
    have hR6 := hR 6 (by decide)
    unfold AccR at hR1 hR6
    rw [if_pos rfl, HN.out] at hR1
    rw [if_neg (by decide)] at hR6
    obtain ⟨q, hq, hql, hqc⟩ := hR6
    obtain ⟨gg, cap, hv1, hbase, hgl⟩ := hR1.form (by omega)
    rw [hv1] at hR1
    have HI := Lib.hid (HINS.out B0 gg cap q W hR1 hG.2.2 hqc)
    simp only [putL, Act.put, List.setIfInBounds_toArray, List.set_cons_zero, List.set_cons_succ]
    rw [hq, hv1]
    clear hR hq hqc hSK hv1 hR1 HINS
    have HGG := Lib.hid hG
    clear hG
    refine one_f (i := 7) (by kernel_rfl) rfl (fun K hK => ?_)
    have HKK := Lib.hid hK
    clear hK
    go_simp
    refine HI.out.mono ?_
    rintro e W' ⟨v', rfl, hown', hgr⟩
    have hne : w.heap.size ≠ gg := by omega
    have hcell := HGG.out.1.1
    have hSK : Cs [(⟨w.heap.size, 0, none⟩, .int .i64 i)] W' ∧ Below w.heap.size w W' ∧ B0 ≤ W'.heap.size := ⟨⟨(World.cell?_of_block (hgr.block w.heap.size (cell_lt hcell) (fun e => hne (Option.some.inj e)))).trans hcell, trivial⟩, Below.grown HGG.out.2.1 hgr HGG.out.2.1.size (fun j hj => by cases hj; omega), Nat.le_trans HGG.out.2.2 hgr.size⟩
    have HO' := Lib.hid hown'
    go_wp2_with fail
    refine HKK.out _ _ (Or.inr (fun _ => hSK)) ?_
    clear HKK K HI hown' hgr hcell hne
    try simp only [Act.put, List.setIfInBounds_toArray, List.set_cons_zero, List.set_cons_succ]
    refine take_y (some 6) (i := 8) (v := ?_) rfl rfl (by kernel_rfl) (by kernel_rfl) (by kernel_rfl) (fun _ _ _ h => h) (Or.inl ⟨by rfl, ?_⟩) ?_
    rotate_left
    · intro w _; go_simp; (try with_reducible rfl)
    try simp only [Act.put, List.setIfInBounds_toArray, List.set_cons_zero, List.set_cons_succ]
    refine take_y (some 7) (i := 9) (v := ?_) rfl rfl (by kernel_rfl) (by kernel_rfl) (by kernel_rfl) (fun _ _ _ h => h) (Or.inl ⟨by rfl, ?_⟩) ?_
    rotate_left
    · intro w _; go_simp; (try with_reducible rfl)
    try simp only [Act.put, List.setIfInBounds_toArray, List.set_cons_zero, List.set_cons_succ]
    refine done_f (by kernel_rfl) ?_ _
    have HB9 := Lib.hid hSK.2.1
    clear hSK
    obtain ⟨g9, cap9, rfl, hg9, _⟩ := HO'.out.form (by omega)
    go_wp2_with fail
    go_ret2
    refine ⟨_, rfl, fun e => absurd rfl e, fun _ => ?_, HB9.out⟩
    have h1 := RowAt.of_own (P := fun b => w.heap.size ≤ b) (L := L ++ [⟨i, b, 0⟩]) encA_len (by rw [List.length_append, HN.out]; simpa [flatS] using HO'.out) (by rw [List.length_append, HN.out]; unfold maxLen at hm ⊢; simp; omega) (fun b hb _ => by omega)
    exact h1

set_option maxRecDepth 100000 in
set_option maxHeartbeats 4000000 in
theorem acreate_there (P : Nat → Prop) (L : List Acc) (i b : Int) (v : Value) (w : World) (hok : AccsOk L) (hi1 : 1 ≤ i) (hi2 : i ≤ 1000) (hlt : findA i L < L.length) (h : AccAt P w v L) :
    Calls Try.prog 17 #[v, .int .i64 i, .int .i64 b] w fun e w' => e = .returned (.tuple #[.slice none 0 0, .int .i64 67]) ∧ Below w.heap.size w w' := by
  obtain ⟨A, c, rfl, hc, hm⟩ := h.slice
  have hlen := hok.len
  have hba := balloc (bref w) (.cells #[.int .i64 i] 3)
  have hz : w.heap.size < (w.alloc (.cells #[.int .i64 i] 3)).heap.size := by simp
  have k0 : (w.alloc (.cells #[.int .i64 i] 3)).cell? ⟨w.heap.size, 0, none⟩ = some (.int .i64 i) := row_new w #[.int .i64 i] 3 0
  have HCK := Lib.hid (fun W (hW : Below w.heap.size w W) => acheck_run P L _ W hok (h.below hW))
  have HIX := Lib.hid (fun W (hW : Below w.heap.size w W) => index_run P L i _ W (by omega) (h.below hW))
  rw [atA_yes hlt] at HIX
  have HBA := Lib.hid hba
  obtain ⟨F, hF⟩ : ∃ F, findA i L = F := ⟨_, rfl⟩
  rw [hF] at HIX
  have q0 : decide ((0 : Int) ≤ (F : Int)) = true := decide_eq_true (by omega)
  obtain ⟨n, hn⟩ : ∃ n, L.length = n := ⟨_, rfl⟩
  rw [hn] at HCK HIX hc ⊢
  clear h hok hn hlt hba hlen hF
  go_enter Try.func17, Try.ntmps17
  go_wp2_with fail
  refine (HCK.out _ HBA.out).mono ?_
  rintro e w1 ⟨rfl, hb1'⟩
  have HB1 := Lib.hid (bstep HBA.out hb1')
  have k1 := (hb1'.cell (p := ⟨w.heap.size, 0, none⟩) hz).trans k0
  clear hb1' k0 hz HBA
  go_wp2_with fail
  refine (isID_yes _ _ hi1 hi2).mono ?_
  rintro e w1b ⟨rfl, rfl⟩
  go_wp2_with fail
  refine (HIX.out _ HB1.out).mono ?_
  rintro e w2 ⟨rfl, hb2⟩
  have HB2 := Lib.hid (bstep HB1.out hb2)
  clear hb2 k1 HB1
  go_wp2_with fail
  go_ret2
  exact ⟨rfl, HB2.out⟩

end Go.Proofs.Ytfmdnhhdjjndbaa
