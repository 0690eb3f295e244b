/- The walk of the reference's Restrict. -/
import Derived.Test.YtkpfjflemlmhfaaRestrict
namespace Go.Proofs.Ytkpfjflemlmhfaa
set_option linter.unusedVariables false
open Go.RowKit

theorem bit0_fact (S K : Nat) (h : S < 1024) (hK : K < 10) : (bits .and .i64 ((S : Int) / 2 ^ K) 1 == 0) = !S.testBit K := by
  have all : ∀ S : Fin 1024, ∀ K : Fin 10, (bits .and .i64 ((S.val : Int) / 2 ^ K.val) 1 == 0) = !S.val.testBit K.val := by decide +kernel
  exact all ⟨S, h⟩ ⟨K, hK⟩
/-- Members in a row of its own, with trusts that lie below B0. -/
def RowT (B0 B d : Nat) (W : World) (v : Value) (rs : List Mem) : Prop :=
  ∃ cs : List Value, W.ownsRow B 42 4 v rs.length cs ∧ ∀ k m, rs[k]? = some m → ∃ x0 x1 x2, cs[k * 4]? = some (.bool m.1) ∧ cs[k * 4 + 1]? = some x0 ∧ cs[k * 4 + 2]? = some x1 ∧ cs[k * 4 + 3]? = some x2 ∧ TAt (fun b => b < B0) d W x0 x1 x2 m.2
theorem RowT.app {B0 B d : Nat} {wo W5 : World} {v' x0 x1 x2 : Value} {rs : List Mem} {m : Mem} {cs : List Value}
    (hcl : ∀ k m, rs[k]? = some m → ∃ x0 x1 x2, cs[k * 4]? = some (.bool m.1) ∧ cs[k * 4 + 1]? = some x0 ∧ cs[k * 4 + 2]? = some x1 ∧ cs[k * 4 + 3]? = some x2 ∧ TAt (fun b => b < B0) d wo x0 x1 x2 m.2) (hcn : cs.length = rs.length * 4)
    (keep : ∀ q, q < B0 → q < wo.heap.size → W5.heap[q]? = wo.heap[q]?) (hT : TAt (fun b => b < B0) d wo x0 x1 x2 m.2) (hown5 : W5.ownsRow B 42 4 v' (rs.length + 1) (cs ++ [.bool m.1, x0, x1, x2])) : RowT B0 B d W5 v' (rs ++ [m]) := by
  refine ⟨cs ++ [.bool m.1, x0, x1, x2], by simpa using hown5, fun k S hS => ?_⟩
  rcases Nat.lt_or_ge k rs.length with hk | hk
  · rw [List.getElem?_append_left hk] at hS
    obtain ⟨y0, y1, y2, e0, e1, e2, e3, e4⟩ := hcl k S hS
    exact ⟨y0, y1, y2, by rw [List.getElem?_append_left (by omega)]; exact e0, by rw [List.getElem?_append_left (by omega)]; exact e1, by rw [List.getElem?_append_left (by omega)]; exact e2, by rw [List.getElem?_append_left (by omega)]; exact e3, e4.keep (fun q hq hP => keep q hP hq)⟩
  · have hk2 : k = rs.length := by
      have := (List.getElem?_eq_some_iff.1 hS).1
      simp at this; omega
    subst hk2
    have hS' : S = m := by simpa using hS.symm
    subst hS'
    refine ⟨x0, x1, x2, ?_, ?_, ?_, ?_, hT.keep (fun q hq hP => keep q hP hq)⟩
    · rw [List.getElem?_append_right (by omega)]; simp [hcn]
    · rw [List.getElem?_append_right (by omega), show rs.length * 4 + 1 - cs.length = 1 by omega]; rfl
    · rw [List.getElem?_append_right (by omega), show rs.length * 4 + 2 - cs.length = 2 by omega]; rfl
    · rw [List.getElem?_append_right (by omega), show rs.length * 4 + 3 - cs.length = 3 by omega]; rfl
theorem RowT.keep {B0 B d : Nat} {W W' : World} {v : Value} {rs : List Mem} (h : RowT B0 B d W v rs) (hk : ∀ q, q < W.heap.size → (q < B0 ∨ B ≤ q) → W'.heap[q]? = W.heap[q]?) : RowT B0 B d W' v rs := by
  obtain ⟨cs, h1, h2⟩ := h
  refine ⟨cs, own_keepG h1 (fun j _ hB hl => hk j hl (.inr hB)), fun k m hm => ?_⟩
  obtain ⟨x0, x1, x2, e0, e1, e2, e3, e4⟩ := h2 k m hm
  exact ⟨x0, x1, x2, e0, e1, e2, e3, e4.keep (fun q hq hP => hk q hq (.inl hP))⟩
theorem RowT.mems {B0 B d : Nat} {W : World} {v : Value} {rs : List Mem} (h : RowT B0 B d W v rs) : MemsAt (fun _ => True) d W v rs := by
  obtain ⟨cs, h1, h2⟩ := h
  rcases h1.2 with ⟨hv, h0⟩ | ⟨g, cap, cur, hv, hb, _⟩
  · exact ⟨none, 0, by rw [hv, h0], fun k T hT => by have := (List.getElem?_eq_some_iff.1 hT).1; omega⟩
  · refine ⟨some ⟨g, 0, none⟩, cap, hv, fun k m hm => ?_⟩
    obtain ⟨x0, x1, x2, e0, e1, e2, e3, e4⟩ := h2 k m hm
    have c : ∀ j u, cs[j]? = some u → W.cell? ⟨g, 0 + j, none⟩ = some u := fun j u hu => by
      have := h1.cells (g := g) (by rw [hv]; rfl) j u hu
      rwa [Addr.add_lit] at this
    exact ⟨g, 0, x0, x1, x2, rfl, trivial, c _ _ e0, by rw [Nat.add_assoc]; exact c _ _ e1, by rw [Nat.add_assoc]; exact c _ _ e2, by rw [Nat.add_assoc]; exact c _ _ e3, e4.imp (fun q _ hq => trivial)⟩

set_option maxRecDepth 100000 in
set_option maxHeartbeats 4000000 in
theorem restrict_run (P : Nat → Prop) (d : Nat) (ms : List Mem) (v : Value) (s : Nat) (w : World) (hl : ms.length ≤ 10) (hs : s < 1024) (h : MemsAt P (d + 1) w v ms) :
    Calls Try.prog 18 #[.agg #[v], .int .i64 (s : Int)] w fun e w' => ∃ v', e = .returned (.agg #[v']) ∧ MemsAt (fun _ => True) (d + 1) w' v' (restM s ms ms.length) ∧ Below w.heap.size w w' := by
  obtain ⟨A, c, rfl⟩ := h.slice
  obtain ⟨i4, hi4, hy0, hy1, hy2⟩ := info_parts infoMember
  have hb3 : Below w.heap.size w (((w.alloc (.cells #[.slice A ms.length c] 27)).alloc (.cells #[.slice none 0 0] 27)).alloc (.cells #[.slice none 0 0] 27)) := balloc (balloc (balloc (bref w) _) _) _
  have k0 : (((w.alloc (.cells #[.slice A ms.length c] 27)).alloc (.cells #[.slice none 0 0] 27)).alloc (.cells #[.slice none 0 0] 27)).heap[w.heap.size]? = some (.cells #[.slice A ms.length c] 27 (0, 0)) := alloc_on (alloc_on (alloc_at rfl))
  have k1 : (((w.alloc (.cells #[.slice A ms.length c] 27)).alloc (.cells #[.slice none 0 0] 27)).alloc (.cells #[.slice none 0 0] 27)).heap[w.heap.size + 1]? = some (.cells #[.slice none 0 0] 27 (0, 0)) := alloc_on (alloc_at (alloc_sz _ _))
  have k2 : (((w.alloc (.cells #[.slice A ms.length c] 27)).alloc (.cells #[.slice none 0 0] 27)).alloc (.cells #[.slice none 0 0] 27)).heap[w.heap.size + 2]? = some (.cells #[.slice none 0 0] 27 (0, 0)) := alloc_at (by rw [alloc_sz, alloc_sz])
  have hsz : (((w.alloc (.cells #[.slice A ms.length c] 27)).alloc (.cells #[.slice none 0 0] 27)).alloc (.cells #[.slice none 0 0] 27)).heap.size = w.heap.size + 3 := by rw [alloc_sz, alloc_sz, alloc_sz]
  have H := Lib.hid ((h.both (Q := fun b => b < w.heap.size) (fun _ _ _ => rfl) (fun k hk _ => hk)).below hb3)
  have HB := Lib.hid hb3
  have K0 := Lib.hid k0
  have K1 := Lib.hid k1
  have K2 := Lib.hid k2
  clear h hb3 k0 k1 k2
  go_enter Try.func18, Try.ntmps18
  go_upto_region 2 with fail
  generalize (((w.alloc (.cells #[.slice A ms.length c] 27)).alloc (.cells #[.slice none 0 0] 27)).alloc (.cells #[.slice none 0 0] 27)) = W1 at *
  generalize hg : w.heap.size = g at *
  have HG := Lib.hid hg
  clear hg
  have c0 : W1.cell? ⟨g, 0, none⟩ = some (.slice A ms.length c) := cell_of_row _ _ 0 _ _ (0, 0) K0.out
  go_wp2_with fail
  go_loopw [11] (fun t W => ∃ (k : Nat) (v : Value), k ≤ ms.length ∧ t = .int .i64 k ∧ Hid (RowT g (g + 3) (d + 1) W v (restM s ms k)) ∧ Hid (W.heap[g + 2]? = some (.cells #[v] 27 (0, 0))) ∧ Hid (W1.grownBy W (some (g + 2)))) (fun t _ => ms.length - (intOf t).toNat)
  case atStart => exact ⟨0, .slice none 0 0, by omega, rfl, Lib.hid ⟨[], World.ownsRow_nil _ _ _ _, fun k T h => by simp [restM] at h⟩, K2, Lib.hid (World.grownBy.refl _ _)⟩
  case round =>
    obtain ⟨k, v, hk, rfl, hRow, hOut, hGr⟩ := hrel
    have hwr := hGr.out.size
    by_cases hlt : k < ms.length
    · obtain ⟨m, hm⟩ : ∃ m, ms[k]? = some m := ⟨_, List.getElem?_eq_getElem hlt⟩
      obtain ⟨b, off, t, A1, n1, c1, A2, n2, c2, rfl, hP, hbl, e0, e1, e2, e3, hT⟩ := memBox H.out hm
      have lw := hGr.out.block b hbl (by simp; omega)
      have d0 := (World.cell?_of_block (a := ⟨b, off + k * 4, none⟩) lw).trans e0
      have d1 := (World.cell?_of_block (a := ⟨b, off + k * 4 + 1, none⟩) lw).trans e1
      have d2 := (World.cell?_of_block (a := ⟨b, off + k * 4 + 2, none⟩) lw).trans e2
      have d3 := (World.cell?_of_block (a := ⟨b, off + k * 4 + 3, none⟩) lw).trans e3
      have hTr := Lib.hid (hT.keep (w' := wr) (fun q hq hP => hGr.out.block q hq (by simp; omega)))
      have hgm : ms.getD k (false, .mk 0 [] []) = m := by rw [List.getD_eq_getElem?_getD, hm]; rfl
      have HRS := Lib.hid (restM_succ s ms k)
      have HRL := Lib.hid (restM_len s ms k)
      obtain ⟨cs, hcs, hcl⟩ := hRow.out
      have hcn := hcs.1
      have HCL := Lib.hid hcl
      have HCS := Lib.hid hcs
      have HRO := Lib.hid hcs.lt
      have hbf := bit0_fact s k hs (by omega)
      have hk10 : ¬ (10 : Int) ≤ (k : Int) := by omega
      have hs0 : ¬ (s : Int) < 0 := by omega
      have hs1 : ¬ (1024 : Int) ≤ (s : Int) := by omega
      cases hb : s.testBit k
      · rw [hb] at hbf
        have HRM := Lib.hid (show resM s ms k = (false, .mk 0 [] []) by unfold resM; rw [hb]; rfl)
        have hnew := cell_four_new (wr.alloc (.cells #[.bool false, .int .i64 0, .slice none 0 0, .slice none 0 0] 42)) (.bool false) (.int .i64 0) (.slice none 0 0) (.slice none 0 0) 42
        rw [alloc_sz] at hnew
        have HNEW := Lib.hid hnew
        have HCSA := Lib.hid ((HCS.out.alloc (.cells #[.bool false, .int .i64 0, .slice none 0 0, .slice none 0 0] 42)).alloc (.cells #[.bool false, .int .i64 0, .slice none 0 0, .slice none 0 0] 42))
        have hba2 := balloc (balloc (bref wr) (.cells #[.bool false, .int .i64 0, .slice none 0 0, .slice none 0 0] 42)) (.cells #[.bool false, .int .i64 0, .slice none 0 0, .slice none 0 0] 42)
        have HBA2 := Lib.hid hba2
        have hszA : ((wr.alloc (.cells #[.bool false, .int .i64 0, .slice none 0 0, .slice none 0 0] 42)).alloc (.cells #[.bool false, .int .i64 0, .slice none 0 0, .slice none 0 0] 42)).heap.size = wr.heap.size + 1 + 1 := by rw [alloc_sz, alloc_sz]
        have HSZA := Lib.hid hszA
        have hcl3 : g + 2 < wr.heap.size := by omega
        have q2 : wr.cell? ⟨g + 2, 0, none⟩ = some v := cell_of_row _ _ 0 _ _ (0, 0) hOut.out
        clear hnew hba2 hszA
        go_wp2_with (at_builtin; refine wpList_append_lies _ rfl _ _ 25 rfl (g + 3) 42 i4 (.agg #[.bool false, .int .i64 0, .slice none 0 0, .slice none 0 0]) 4 64 Try.underlying25 hi4 hy0 hy1 hy2 rfl (by decide) _ (restM s ms k).length cs rfl (by exact HCSA.out) ⟨_, 0, none⟩ 1 1 [.bool false, .int .i64 0, .slice none 0 0, .slice none 0 0] rfl rfl (by exact HNEW.out) (by intro u hu; simp at hu; rcases hu with rfl | rfl | rfl | rfl <;> rfl) (by omega) (by have := HRL.out; unfold maxLen; omega) (by have := HRL.out; omega) (by have := HSZA.out; omega) _ rfl ?_; intro g4 cap4 W5 hown4 hgrow4 hat4 hlt4; have hcb5 : W5.heap[g + 2]? = some (.cells #[v] 27 (0, 0)) := (hgrow4.block (g + 2) (by have := HSZA.out; omega) (fun e => by have := (HRO.out _ e.symm).1; omega)).trans ((HBA2.out.block (g + 2) hcl3).trans hOut.out); have s0 : W5.cell? ⟨g + 2, 0, none⟩ = some v := cell_of_row _ _ 0 _ _ (0, 0) hcb5; have sf : W5.frozen? ⟨g + 2, 0, none⟩ = false := by simp [World.frozen?, hcb5])
        have hlow5 : ∀ q, q < g + 3 → q ≠ g + 2 → (W5.setCell ⟨g + 2, 0, none⟩ (.slice (some ⟨g4, 0, none⟩) ((restM s ms k).length + 1) cap4)).heap[q]? = wr.heap[q]? := fun q hq hn =>
          (Below.heap_setCell _ _ _ _ (by simpa using hn)).trans ((hgrow4.block q (by have := HSZA.out; omega) (fun e => by have := (HRO.out _ e.symm).1; omega)).trans (HBA2.out.block q (by omega)))
        have hown5 := hown4.kept (gset1 W5 ⟨g + 2, 0, none⟩ (.slice (some ⟨g4, 0, none⟩) ((restM s ms k).length + 1) cap4)) (.inr (by have h1 := (hown4.lt g4 rfl).1; simp [Value.ownBlock]; omega))
        have hrow5 := RowT.app (m := (false, .mk 0 [] [])) HCL.out hcn (fun q hq _ => hlow5 q (by omega) (by omega)) ⟨rfl, by simp, by simp, ⟨none, 0, rfl, fun k hk => by simp at hk⟩, ⟨none, 0, rfl, fun k T hT => by simp at hT⟩⟩ hown5
        have hset5 : (W5.setCell ⟨g + 2, 0, none⟩ (.slice (some ⟨g4, 0, none⟩) ((restM s ms k).length + 1) cap4)).heap[g + 2]? = some (.cells #[.slice (some ⟨g4, 0, none⟩) ((restM s ms k).length + 1) cap4] 27 (0, 0)) := by
          simp [World.setCell, Array.getElem?_modify, hcb5]
        have hgr5 : W1.grownBy (W5.setCell ⟨g + 2, 0, none⟩ (.slice (some ⟨g4, 0, none⟩) ((restM s ms k).length + 1) cap4)) (some (g + 2)) :=
          grown_at (gown (grown_trans hGr.out (grown_below HBA2.out)) ⟨hgrow4.os, hgrow4.tape, hgrow4.output, hgrow4.size, hgrow4.block⟩ (fun q hq => by have := (HRO.out q hq).1; omega)) 0 _
        rw [← HRM.out, ← HRS.out] at hrow5
        have HROW5 := Lib.hid hrow5
        have HSET5 := Lib.hid hset5
        have HGR5 := Lib.hid hgr5
        clear hlow5 hown5 hrow5 hset5 hgr5 hown4 hgrow4 hat4 hlt4 hcb5 s0 sf
        go_roundw
        case rel => exact ⟨k + 1, _, by omega, by go_num, HROW5, HSET5, HGR5⟩
        case measure => simp [intOf]; omega
      · rw [hb] at hbf
        have HRM := Lib.hid (show resM s ms k = m by unfold resM; rw [if_pos hb]; exact hgm)
        obtain ⟨dec, T⟩ := m
        have hnew := cell_four_new (wr.alloc (.cells #[.bool dec, .int .i64 t, .slice A1 n1 c1, .slice A2 n2 c2] 42)) (.bool dec) (.int .i64 t) (.slice A1 n1 c1) (.slice A2 n2 c2) 42
        rw [alloc_sz] at hnew
        have HNEW := Lib.hid hnew
        have HCSA := Lib.hid ((HCS.out.alloc (.cells #[.bool dec, .int .i64 t, .slice A1 n1 c1, .slice A2 n2 c2] 42)).alloc (.cells #[.bool dec, .int .i64 t, .slice A1 n1 c1, .slice A2 n2 c2] 42))
        have hba2 := balloc (balloc (bref wr) (.cells #[.bool dec, .int .i64 t, .slice A1 n1 c1, .slice A2 n2 c2] 42)) (.cells #[.bool dec, .int .i64 t, .slice A1 n1 c1, .slice A2 n2 c2] 42)
        have HBA2 := Lib.hid hba2
        have hszA : ((wr.alloc (.cells #[.bool dec, .int .i64 t, .slice A1 n1 c1, .slice A2 n2 c2] 42)).alloc (.cells #[.bool dec, .int .i64 t, .slice A1 n1 c1, .slice A2 n2 c2] 42)).heap.size = wr.heap.size + 1 + 1 := by rw [alloc_sz, alloc_sz]
        have HSZA := Lib.hid hszA
        have hcl3 : g + 2 < wr.heap.size := by omega
        have q2 : wr.cell? ⟨g + 2, 0, none⟩ = some v := cell_of_row _ _ 0 _ _ (0, 0) hOut.out
        clear hnew hba2 hszA
        go_wp2_with (at_builtin; refine wpList_append_lies _ rfl _ _ 25 rfl (g + 3) 42 i4 (.agg #[.bool false, .int .i64 0, .slice none 0 0, .slice none 0 0]) 4 64 Try.underlying25 hi4 hy0 hy1 hy2 rfl (by decide) _ (restM s ms k).length cs rfl (by exact HCSA.out) ⟨_, 0, none⟩ 1 1 [.bool dec, .int .i64 t, .slice A1 n1 c1, .slice A2 n2 c2] rfl rfl (by exact HNEW.out) (by intro u hu; simp at hu; rcases hu with rfl | rfl | rfl | rfl <;> rfl) (by omega) (by have := HRL.out; unfold maxLen; omega) (by have := HRL.out; omega) (by have := HSZA.out; omega) _ rfl ?_; intro g4 cap4 W5 hown4 hgrow4 hat4 hlt4; have hcb5 : W5.heap[g + 2]? = some (.cells #[v] 27 (0, 0)) := (hgrow4.block (g + 2) (by have := HSZA.out; omega) (fun e => by have := (HRO.out _ e.symm).1; omega)).trans ((HBA2.out.block (g + 2) hcl3).trans hOut.out); have s0 : W5.cell? ⟨g + 2, 0, none⟩ = some v := cell_of_row _ _ 0 _ _ (0, 0) hcb5; have sf : W5.frozen? ⟨g + 2, 0, none⟩ = false := by simp [World.frozen?, hcb5])
        have hlow5 : ∀ q, q < g + 3 → q ≠ g + 2 → (W5.setCell ⟨g + 2, 0, none⟩ (.slice (some ⟨g4, 0, none⟩) ((restM s ms k).length + 1) cap4)).heap[q]? = wr.heap[q]? := fun q hq hn =>
          (Below.heap_setCell _ _ _ _ (by simpa using hn)).trans ((hgrow4.block q (by have := HSZA.out; omega) (fun e => by have := (HRO.out _ e.symm).1; omega)).trans (HBA2.out.block q (by omega)))
        have hown5 := hown4.kept (gset1 W5 ⟨g + 2, 0, none⟩ (.slice (some ⟨g4, 0, none⟩) ((restM s ms k).length + 1) cap4)) (.inr (by have h1 := (hown4.lt g4 rfl).1; simp [Value.ownBlock]; omega))
        have hrow5 := RowT.app (m := (dec, T)) HCL.out hcn (fun q hq _ => hlow5 q (by omega) (by omega)) hTr.out hown5
        have hset5 : (W5.setCell ⟨g + 2, 0, none⟩ (.slice (some ⟨g4, 0, none⟩) ((restM s ms k).length + 1) cap4)).heap[g + 2]? = some (.cells #[.slice (some ⟨g4, 0, none⟩) ((restM s ms k).length + 1) cap4] 27 (0, 0)) := by
          simp [World.setCell, Array.getElem?_modify, hcb5]
        have hgr5 : W1.grownBy (W5.setCell ⟨g + 2, 0, none⟩ (.slice (some ⟨g4, 0, none⟩) ((restM s ms k).length + 1) cap4)) (some (g + 2)) :=
          grown_at (gown (grown_trans hGr.out (grown_below HBA2.out)) ⟨hgrow4.os, hgrow4.tape, hgrow4.output, hgrow4.size, hgrow4.block⟩ (fun q hq => by have := (HRO.out q hq).1; omega)) 0 _
        rw [← HRM.out, ← HRS.out] at hrow5
        have HROW5 := Lib.hid hrow5
        have HSET5 := Lib.hid hset5
        have HGR5 := Lib.hid hgr5
        clear hlow5 hown5 hrow5 hset5 hgr5 hown4 hgrow4 hat4 hlt4 hcb5 s0 sf
        go_roundw
        case rel => exact ⟨k + 1, _, by omega, by go_num, HROW5, HSET5, HGR5⟩
        case measure => simp [intOf]; omega
    · obtain rfl : k = ms.length := by omega
      obtain ⟨Av, nv, cv, hv⟩ : ∃ A n c, v = .slice A n c := by
        obtain ⟨A, c, h1⟩ := hRow.out.mems.slice
        exact ⟨A, _, c, h1⟩
      subst hv
      have c2 : wr.cell? ⟨g + 2, 0, none⟩ = some (.slice Av nv cv) := cell_of_row _ _ 0 _ _ (0, 0) hOut.out
      have hres : wr.heap[g + 1]? = some (.cells #[.slice none 0 0] 27 (0, 0)) := (hGr.out.block (g + 1) (by omega) (by simp)).trans K1.out
      have z0 : wr.cell? ⟨g + 1, 0, none⟩ = some (.slice none 0 0) := cell_of_row _ _ 0 _ _ (0, 0) hres
      have zf : wr.frozen? ⟨g + 1, 0, none⟩ = false := by simp [World.frozen?, hres]
      have hset : (wr.setCell ⟨g + 1, 0, none⟩ (.slice Av nv cv)).heap[g + 1]? = some (.cells #[.slice Av nv cv] 27 (0, 0)) := by
        simp [World.setCell, Array.getElem?_modify, hres]
      have q0 : (wr.setCell ⟨g + 1, 0, none⟩ (.slice Av nv cv)).cell? ⟨g + 1, 0, none⟩ = some (.slice Av nv cv) := cell_of_row _ _ 0 _ _ (0, 0) hset
      have hms : MemsAt (fun _ => True) (d + 1) (wr.setCell ⟨g + 1, 0, none⟩ (.slice Av nv cv)) (.slice Av nv cv) (restM s ms ms.length) := (hRow.out.keep (fun q _ hq => Below.heap_setCell _ _ _ _ (by simp; omega))).mems
      have hbW : Below w.heap.size w (wr.setCell ⟨g + 1, 0, none⟩ (.slice Av nv cv)) := by
        have h1 := HB.out
        rw [← HG.out] at h1
        exact bset (h1.grown hGr.out h1.size (fun q hq => by obtain rfl := Option.some.inj hq; have := HG.out; omega)) (p := ⟨g + 1, 0, none⟩) (by have := HG.out; show w.heap.size ≤ g + 1; omega) _
      have HF := Lib.hid (And.intro hms hbW)
      have Q0 := Lib.hid q0
      clear hset q0 hms hbW hres
      go_wp2_with fail
      have q0 := Q0.out
      refine bodyPost_ret (v := .agg #[.slice Av nv cv]) ?_ rfl ⟨_, rfl, HF.out⟩
      simp [results, Try.results18, go_sem, q0]
end Go.Proofs.Ytkpfjflemlmhfaa
