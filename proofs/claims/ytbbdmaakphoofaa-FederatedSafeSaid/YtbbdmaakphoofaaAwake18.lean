/- The example of layer 18. -/
import Derived.Test.YtbbdmaakphoofaaFed
namespace Go.Proofs.Ytbbdmaakphoofaa
set_option linter.unusedVariables false
set_option linter.unusedSimpArgs false
open Go.RowKit

def foT : Tree := .mk 3 [0, 1, 2, 3] []
def foM (k : Nat) : List Mem := List.replicate k (true, foT)
theorem foM_succ (k : Nat) : foM (k + 1) = foM k ++ [(true, foT)] := List.replicate_succ'
theorem foM_len (k : Nat) : (foM k).length = k := List.length_replicate

set_option maxRecDepth 100000 in
set_option maxHeartbeats 4000000 in
theorem four_run (w : World) : Calls Try.prog 60 #[] w fun e w' => ∃ v, e = .returned (.agg #[v]) ∧ MemsAt (fun _ => True) 1 w' v (foM 4) ∧ Below w.heap.size w w' := by
  obtain ⟨i4, hi4, hy0, hy1, hy2⟩ := info_parts infoMember
  have hb2 : Below w.heap.size w ((w.alloc (.cells #[.slice none 0 0] 27)).alloc (.cells #[.slice none 0 0] 27)) := balloc (balloc (bref w) _) _
  have k1 : ((w.alloc (.cells #[.slice none 0 0] 27)).alloc (.cells #[.slice none 0 0] 27)).heap[w.heap.size]? = some (.cells #[.slice none 0 0] 27 (0, 0)) := alloc_on (alloc_at rfl)
  have k2 : ((w.alloc (.cells #[.slice none 0 0] 27)).alloc (.cells #[.slice none 0 0] 27)).heap[w.heap.size + 1]? = some (.cells #[.slice none 0 0] 27 (0, 0)) := alloc_at (alloc_sz _ _)
  have hsz : ((w.alloc (.cells #[.slice none 0 0] 27)).alloc (.cells #[.slice none 0 0] 27)).heap.size = w.heap.size + 2 := by rw [alloc_sz, alloc_sz]
  have HB := Lib.hid hb2
  have K1 := Lib.hid k1
  have K2 := Lib.hid k2
  clear hb2 k1 k2
  go_enter Try.func60, Try.ntmps60
  go_upto_region 2 with fail
  generalize ((w.alloc (.cells #[.slice none 0 0] 27)).alloc (.cells #[.slice none 0 0] 27)) = W1 at *
  generalize hg : w.heap.size = g at *
  have HG := Lib.hid hg
  clear hg
  go_wp2_with fail
  go_loopw [2] (fun t W => ∃ (k : Nat) (v : Value), k ≤ 4 ∧ t = .int .i64 k ∧ Hid (MemRow (g + 2) 1 W v (foM k)) ∧ Hid (W.heap[g + 1]? = some (.cells #[v] 27 (0, 0))) ∧ Hid (W1.grownBy W (some (g + 1)))) (fun t _ => 4 - (intOf t).toNat)
  case atStart => exact ⟨0, .slice none 0 0, by omega, rfl, Lib.hid (MemRow.nil _ _ _), K2, Lib.hid (World.grownBy.refl _ _)⟩
  case round =>
    obtain ⟨k, v, hk, rfl, hRow, hOut, hGr⟩ := hrel
    have hwr := hGr.out.size
    by_cases hlt : k < 4
    · have HRS := Lib.hid (foM_succ k)
      have HRL := Lib.hid (foM_len k)
      obtain ⟨cs, hcs, hcl⟩ := hRow.out
      have hcn := hcs.1
      have HCL := Lib.hid hcl
      have HCS := Lib.hid hcs
      have HRO := Lib.hid hcs.lt
      have hk4 : (k : Int) < 4 := by omega
      obtain ⟨wo, hwo⟩ : ∃ x, x = wr := ⟨_, rfl⟩
      subst hwo
      have hnew := cell_four_new (wo.alloc (.cells #[.int .i64 0, .int .i64 1, .int .i64 2, .int .i64 3] 3)) (.bool true) (.int .i64 3) (.slice (some ⟨wo.heap.size, 0, none⟩) 4 4) (.slice none 0 0) 62
      rw [alloc_sz] at hnew
      have HNEW := Lib.hid hnew
      have HCSA := Lib.hid ((HCS.out.alloc (.cells #[.int .i64 0, .int .i64 1, .int .i64 2, .int .i64 3] 3)).alloc (.cells #[.bool true, .int .i64 3, .slice (some ⟨wo.heap.size, 0, none⟩) 4 4, .slice none 0 0] 62))
      have hba2 := balloc (balloc (bref wo) (.cells #[.int .i64 0, .int .i64 1, .int .i64 2, .int .i64 3] 3)) (.cells #[.bool true, .int .i64 3, .slice (some ⟨wo.heap.size, 0, none⟩) 4 4, .slice none 0 0] 62)
      have hints : ((wo.alloc (.cells #[.int .i64 0, .int .i64 1, .int .i64 2, .int .i64 3] 3)).alloc (.cells #[.bool true, .int .i64 3, .slice (some ⟨wo.heap.size, 0, none⟩) 4 4, .slice none 0 0] 62)).heap[wo.heap.size]? = some (.cells #[.int .i64 0, .int .i64 1, .int .i64 2, .int .i64 3] 3 (0, 0)) := alloc_on (alloc_at rfl)
      have hTT : TAt (fun b => wo.heap.size ≤ b) 1 ((wo.alloc (.cells #[.int .i64 0, .int .i64 1, .int .i64 2, .int .i64 3] 3)).alloc (.cells #[.bool true, .int .i64 3, .slice (some ⟨wo.heap.size, 0, none⟩) 4 4, .slice none 0 0] 62)) (.int .i64 3) (.slice (some ⟨wo.heap.size, 0, none⟩) 4 4) (.slice none 0 0) foT := by
        refine ⟨rfl, by decide, by decide, ⟨some ⟨wo.heap.size, 0, none⟩, 4, rfl, fun k hk => ⟨wo.heap.size, 0, rfl, Nat.le_refl _, ?_⟩⟩, ⟨none, 0, rfl, fun k T hT => by simp at hT⟩⟩
        have hk3 : k < 4 := hk
        rw [Nat.zero_add]
        refine (cell_of_row _ _ k _ _ (0, 0) hints).trans ?_
        match k, hk3 with
        | 0, _ | 1, _ | 2, _ | 3, _ => rfl
      have HBA2 := Lib.hid hba2
      have HTT := Lib.hid hTT
      have hszA : ((wo.alloc (.cells #[.int .i64 0, .int .i64 1, .int .i64 2, .int .i64 3] 3)).alloc (.cells #[.bool true, .int .i64 3, .slice (some ⟨wo.heap.size, 0, none⟩) 4 4, .slice none 0 0] 62)).heap.size = wo.heap.size + 1 + 1 := by rw [alloc_sz, alloc_sz]
      have HSZA := Lib.hid hszA
      have hcl3 : g + 1 < wo.heap.size := by omega
      have q2 : wo.cell? ⟨g + 1, 0, none⟩ = some v := cell_of_row _ _ 0 _ _ (0, 0) hOut.out
      clear hnew hba2 hszA hints hTT hcl hcs
      go_wp2_with (at_builtin; refine wpList_append_lies _ rfl _ _ 25 rfl (g + 2) 62 i4 (.agg #[.bool false, .int .i64 0, .slice none 0 0, .slice none 0 0]) 4 64 Try.underlying25 hi4 hy0 hy1 hy2 rfl (by decide) _ (foM k).length cs rfl (by exact HCSA.out) ⟨_, 0, none⟩ 1 1 [.bool true, .int .i64 3, .slice (some ⟨wo.heap.size, 0, none⟩) 4 4, .slice none 0 0] rfl rfl (by exact HNEW.out) (by intro u hu; simp at hu; rcases hu with rfl | rfl | rfl | rfl <;> rfl) (by omega) (by have := HRL.out; unfold maxLen; omega) (by have := HRL.out; omega) (by have := HSZA.out; omega) _ rfl ?_; intro g4 cap4 W5 hown4 hgrow4 hat4 hlt4; have hcb5 : W5.heap[g + 1]? = some (.cells #[v] 27 (0, 0)) := (hgrow4.block (g + 1) (by have := HSZA.out; omega) (fun e => by have := (HRO.out _ e.symm).1; omega)).trans ((HBA2.out.block (g + 1) hcl3).trans hOut.out); have s0 : W5.cell? ⟨g + 1, 0, none⟩ = some v := cell_of_row _ _ 0 _ _ (0, 0) hcb5; have sf : W5.frozen? ⟨g + 1, 0, none⟩ = false := by simp [World.frozen?, hcb5])
      have hgw : ((wo.alloc (.cells #[.int .i64 0, .int .i64 1, .int .i64 2, .int .i64 3] 3)).alloc (.cells #[.bool true, .int .i64 3, .slice (some ⟨wo.heap.size, 0, none⟩) 4 4, .slice none 0 0] 62)).grownBy W5 v.ownBlock := ⟨hgrow4.os, hgrow4.tape, hgrow4.output, hgrow4.size, hgrow4.block⟩
      have hrow5 := MemRow.append (m := (true, foT)) hRow.out (fun q _ hq => HBA2.out.block q hq) (by have := HSZA.out; omega) (by omega) HCL.out hcn HTT.out hown4 hgw hat4
      have hrow6 := hrow5.keep (W' := W5.setCell ⟨g + 1, 0, none⟩ (.slice (some ⟨g4, 0, none⟩) ((foM k).length + 1) cap4)) (fun q hq _ => Below.heap_setCell _ _ _ _ (by simp; omega))
      have hset5 : (W5.setCell ⟨g + 1, 0, none⟩ (.slice (some ⟨g4, 0, none⟩) ((foM k).length + 1) cap4)).heap[g + 1]? = some (.cells #[.slice (some ⟨g4, 0, none⟩) ((foM k).length + 1) cap4] 27 (0, 0)) := by
        simp [World.setCell, Array.getElem?_modify, hcb5]
      have hgr5 : W1.grownBy (W5.setCell ⟨g + 1, 0, none⟩ (.slice (some ⟨g4, 0, none⟩) ((foM k).length + 1) cap4)) (some (g + 1)) :=
        grown_at (gown (grown_trans hGr.out (grown_below HBA2.out)) hgw (fun q hq => by have := (HRO.out q hq).1; omega)) 0 _
      rw [← HRS.out] at hrow6
      have HROW := Lib.hid hrow6
      have HSET := Lib.hid hset5
      have HGR := Lib.hid hgr5
      clear hrow5 hrow6 hset5 hgr5 hown4 hgrow4 hat4 hlt4 hcb5 s0 sf hgw
      go_roundw
      case rel => exact ⟨k + 1, _, by omega, by go_num, HROW, HSET, HGR⟩
      case measure => simp [intOf]; omega
    · obtain rfl : k = 4 := by omega
      obtain ⟨Av, cv, hv⟩ : ∃ A c, v = .slice A (foM 4).length c := by
        obtain ⟨A, c, h1⟩ := (hRow.out.mems (P := fun _ => True) (fun _ _ => trivial)).slice
        exact ⟨A, c, h1⟩
      rw [foM_len] at hv
      subst hv
      have c2 : wr.cell? ⟨g + 1, 0, none⟩ = some (.slice Av 4 cv) := cell_of_row _ _ 0 _ _ (0, 0) hOut.out
      have hres : wr.heap[g]? = some (.cells #[.slice none 0 0] 27 (0, 0)) := (hGr.out.block g (by omega) (by simp)).trans K1.out
      have z0 : wr.cell? ⟨g, 0, none⟩ = some (.slice none 0 0) := cell_of_row _ _ 0 _ _ (0, 0) hres
      have zf : wr.frozen? ⟨g, 0, none⟩ = false := by simp [World.frozen?, hres]
      have hset : (wr.setCell ⟨g, 0, none⟩ (.slice Av 4 cv)).heap[g]? = some (.cells #[.slice Av 4 cv] 27 (0, 0)) := by
        simp [World.setCell, Array.getElem?_modify, hres]
      have q0 : (wr.setCell ⟨g, 0, none⟩ (.slice Av 4 cv)).cell? ⟨g, 0, none⟩ = some (.slice Av 4 cv) := cell_of_row _ _ 0 _ _ (0, 0) hset
      have hms : MemsAt (fun _ => True) 1 (wr.setCell ⟨g, 0, none⟩ (.slice Av 4 cv)) (.slice Av 4 cv) (foM 4) := (hRow.out.keep (fun q hq _ => Below.heap_setCell _ _ _ _ (by simp; omega))).mems (fun _ _ => trivial)
      have hbW : Below w.heap.size w (wr.setCell ⟨g, 0, none⟩ (.slice Av 4 cv)) := by
        have h1 := HB.out
        rw [← HG.out] at h1
        exact bset (h1.grown hGr.out h1.size (fun q hq => by obtain rfl := Option.some.inj hq; have := HG.out; omega)) (p := ⟨g, 0, none⟩) (by have := HG.out; show w.heap.size ≤ g; omega) _
      have HF := Lib.hid (And.intro hms hbW)
      have Q0 := Lib.hid q0
      clear hset q0 hms hbW hres
      go_wp2_with fail
      have q0 := Q0.out
      refine bodyPost_ret (v := .agg #[.slice Av 4 cv]) ?_ rfl ⟨_, rfl, HF.out⟩
      simp [results, Try.results60, go_sem, q0]

theorem foM_decl : declS (foM 4) 4 = 15 := by decide
theorem foM_7 : ∀ k, k < 4 → uns 1 (foM 4) 7 k = false := by decide +kernel
theorem foM_14 : uns 1 (foM 4) 14 0 = false := by decide +kernel
theorem foM_3 : ∀ q : Fin 4, q.val.testBit 0 = true → uns 1 (foM 4) q.val 0 = true := by decide +kernel
theorem foM_b6 : blkM 1 (foM 4) 6 0 = true := by decide +kernel
theorem foM_b0 : blkM 1 (foM 4) 0 0 = false := by decide +kernel
theorem fo1 : accB 1 (foM 4) 0 7 0 = true := by
  unfold accB
  rw [Bool.or_eq_true]
  exact .inr (rdyB_iff.2 ⟨7, by omega, sub_iff.1 (by decide), fun k hk => foM_7 k (by rw [foM_len] at hk; exact hk), by decide⟩)
theorem fo2 : accB 1 (foM 4) 0 0 6 = true := by unfold accB; rw [foM_b6]; rfl
theorem fo3 : accB 1 (foM 4) 0 3 0 = false := by
  unfold accB
  rw [foM_b0, Bool.false_or]
  cases h : rdyB 1 (foM 4) ((3 ||| 0) &&& declS (foM 4) (foM 4).length) 0
  · rfl
  · obtain ⟨Q, h1, h2, h3, h4⟩ := rdyB_iff.1 h
    have hQ : Q < 4 := lt_of_bits (b := 3) (fun k hk => (sub_and.1 h2).1 k hk) (by omega)
    have h5 := h3 0 (by rw [foM_len]; omega)
    rw [foM_3 ⟨Q, hQ⟩ h4] at h5
    cases h5
theorem fo4 : cnfB 1 (foM 4) 0 7 = true := rdyB_iff.2 ⟨7, by omega, sub_iff.1 (by decide), fun k hk => foM_7 k (by rw [foM_len] at hk; exact hk), by decide⟩
theorem fo5 : cnfB 1 (foM 4) 0 14 = false := by
  cases h : cnfB 1 (foM 4) 0 14
  · rfl
  · obtain ⟨Q, h1, h2, h3, h4⟩ := rdyB_iff.1 h
    have := (sub_and.1 h2).1 0 h4
    simp at this

set_option maxRecDepth 100000 in
set_option maxHeartbeats 4000000 in
theorem awake18 (w : World) : Calls Try.prog 23 #[] w fun e w' => e = .returned (.bool true) ∧ Below w.heap.size w w' := by
  have hl : (foM 4).length ≤ 10 := by decide
  have F1 := Lib.hid fo1
  have F2 := Lib.hid fo2
  have F3 := Lib.hid fo3
  have F4 := Lib.hid fo4
  have F5 := Lib.hid fo5
  go_enter Try.func23, Try.ntmps23
  go_wp2_with fail
  refine (four_run _).mono ?_
  rintro e w1 ⟨v1, rfl, hm1, hb1⟩
  go_wp2_with fail
  refine (accepts_run _ 1 _ _ 0 7 0 _ hl (by omega) (by omega) (by omega) hm1).mono ?_
  rintro e w2 ⟨rfl, hb2⟩
  rw [F1.out]
  have HB2 := Lib.hid (bstep hb1 hb2)
  clear hm1 hb1 hb2
  go_wp2_with fail
  refine (four_run _).mono ?_
  rintro e w3 ⟨v3, rfl, hm3, hb3⟩
  go_wp2_with fail
  refine (accepts_run _ 1 _ _ 0 0 6 _ hl (by omega) (by omega) (by omega) hm3).mono ?_
  rintro e w4 ⟨rfl, hb4⟩
  rw [F2.out]
  have HB4 := Lib.hid (bstep (bstep HB2.out hb3) hb4)
  clear hm3 hb3 hb4
  go_wp2_with fail
  refine (four_run _).mono ?_
  rintro e w5 ⟨v5, rfl, hm5, hb5⟩
  go_wp2_with fail
  refine (accepts_run _ 1 _ _ 0 3 0 _ hl (by omega) (by omega) (by omega) hm5).mono ?_
  rintro e w6 ⟨rfl, hb6⟩
  rw [F3.out]
  have HB6 := Lib.hid (bstep (bstep HB4.out hb5) hb6)
  clear hm5 hb5 hb6
  go_wp2_with fail
  refine (four_run _).mono ?_
  rintro e w7 ⟨v7, rfl, hm7, hb7⟩
  go_wp2_with fail
  refine (confirms_run _ 1 _ _ 0 7 _ hl (by omega) (by omega) hm7).mono ?_
  rintro e w8 ⟨rfl, hb8⟩
  rw [F4.out]
  have HB8 := Lib.hid (bstep (bstep HB6.out hb7) hb8)
  clear hm7 hb7 hb8
  go_wp2_with fail
  refine (four_run _).mono ?_
  rintro e w9 ⟨v9, rfl, hm9, hb9⟩
  go_wp2_with fail
  refine (confirms_run _ 1 _ _ 0 14 _ hl (by omega) (by omega) hm9).mono ?_
  rintro e w10 ⟨rfl, hb10⟩
  rw [F5.out]
  have HB10 := Lib.hid (bstep (bstep HB8.out hb9) hb10)
  clear hm9 hb9 hb10
  go_wp2_with fail
  go_ret
  exact ⟨rfl, HB10.out⟩
end Go.Proofs.Ytbbdmaakphoofaa
