/- The contract of law 10's same. -/
import Derived.Test.YtoaekbhbbejgmaaUni0
namespace Go.Proofs.Ytoaekbhbbejgmaa
set_option linter.unusedVariables false
set_option linter.unusedSimpArgs false
open Go.RowKit

/-- Members in a row of its own, with trusts that lie below B0. -/
def RowP (P : Nat → Prop) (B d : Nat) (W : World) (v : Value) (rs : List Mem) : Prop :=
  ∃ cs : List Value, W.ownsRow B 44 4 v rs.length cs ∧ ∀ k m, rs[k]? = some m → ∃ x0 x1 x2, cs[k * 4]? = some (.bool m.1) ∧ cs[k * 4 + 1]? = some x0 ∧ cs[k * 4 + 2]? = some x1 ∧ cs[k * 4 + 3]? = some x2 ∧ TAt P d W x0 x1 x2 m.2
theorem RowP.app {P : Nat → Prop} {B d : Nat} {wo W5 : World} {v' x0 x1 x2 : Value} {rs : List Mem} {m : Mem} {cs : List Value}
    (hcl : ∀ k m, rs[k]? = some m → ∃ x0 x1 x2, cs[k * 4]? = some (.bool m.1) ∧ cs[k * 4 + 1]? = some x0 ∧ cs[k * 4 + 2]? = some x1 ∧ cs[k * 4 + 3]? = some x2 ∧ TAt P d wo x0 x1 x2 m.2) (hcn : cs.length = rs.length * 4)
    (keep : ∀ q, P q → q < wo.heap.size → W5.heap[q]? = wo.heap[q]?) (hT : TAt P d wo x0 x1 x2 m.2) (hown5 : W5.ownsRow B 44 4 v' (rs.length + 1) (cs ++ [.bool m.1, x0, x1, x2])) : RowP P B d W5 v' (rs ++ [m]) := by
  refine ⟨cs ++ [.bool m.1, x0, x1, x2], by simpa using hown5, fun k S hS => ?_⟩
  rcases Nat.lt_or_ge k rs.length with hk | hk
  · rw [List.getElem?_append_left hk] at hS
    obtain ⟨y0, y1, y2, e0, e1, e2, e3, e4⟩ := hcl k S hS
    exact ⟨y0, y1, y2, by rw [List.getElem?_append_left (by omega)]; exact e0, by rw [List.getElem?_append_left (by omega)]; exact e1, by rw [List.getElem?_append_left (by omega)]; exact e2, by rw [List.getElem?_append_left (by omega)]; exact e3, e4.keep (fun q hq hP => keep q hP hq)⟩
  · have hk2 : k = rs.length := by
      have := (List.getElem?_eq_some_iff.1 hS).1
      simp at this; omega
    subst hk2
    have hS' : S = m := by simpa using hS.symm
    subst hS'
    refine ⟨x0, x1, x2, ?_, ?_, ?_, ?_, hT.keep (fun q hq hP => keep q hP hq)⟩
    · rw [List.getElem?_append_right (by omega)]; simp [hcn]
    · rw [List.getElem?_append_right (by omega), show rs.length * 4 + 1 - cs.length = 1 by omega]; rfl
    · rw [List.getElem?_append_right (by omega), show rs.length * 4 + 2 - cs.length = 2 by omega]; rfl
    · rw [List.getElem?_append_right (by omega), show rs.length * 4 + 3 - cs.length = 3 by omega]; rfl
theorem RowP.keep {P : Nat → Prop} {B d : Nat} {W W' : World} {v : Value} {rs : List Mem} (h : RowP P B d W v rs) (hk : ∀ q, q < W.heap.size → (P q ∨ B ≤ q) → W'.heap[q]? = W.heap[q]?) : RowP P B d W' v rs := by
  obtain ⟨cs, h1, h2⟩ := h
  refine ⟨cs, own_keepG h1 (fun j _ hB hl => hk j hl (.inr hB)), fun k m hm => ?_⟩
  obtain ⟨x0, x1, x2, e0, e1, e2, e3, e4⟩ := h2 k m hm
  exact ⟨x0, x1, x2, e0, e1, e2, e3, e4.keep (fun q hq hP => hk q hq (.inl hP))⟩
theorem RowP.mems {P : Nat → Prop} {B d : Nat} {W : World} {v : Value} {rs : List Mem} (h : RowP P B d W v rs) : MemsAt (fun _ => True) d W v rs := by
  obtain ⟨cs, h1, h2⟩ := h
  rcases h1.2 with ⟨hv, h0⟩ | ⟨g, cap, cur, hv, hb, _⟩
  · exact ⟨none, 0, by rw [hv, h0], fun k T hT => by have := (List.getElem?_eq_some_iff.1 hT).1; omega⟩
  · refine ⟨some ⟨g, 0, none⟩, cap, hv, fun k m hm => ?_⟩
    obtain ⟨x0, x1, x2, e0, e1, e2, e3, e4⟩ := h2 k m hm
    have c : ∀ j u, cs[j]? = some u → W.cell? ⟨g, 0 + j, none⟩ = some u := fun j u hu => by
      have := h1.cells (g := g) (by rw [hv]; rfl) j u hu
      rwa [Addr.add_lit] at this
    exact ⟨g, 0, x0, x1, x2, rfl, trivial, c _ _ e0, by rw [Nat.add_assoc]; exact c _ _ e1, by rw [Nat.add_assoc]; exact c _ _ e2, by rw [Nat.add_assoc]; exact c _ _ e3, e4.imp (fun q _ hq => trivial)⟩

set_option maxRecDepth 100000 in
set_option maxHeartbeats 4000000 in
theorem same10_run (n k : Nat) (hn : n ≤ 10) (hk : k ≤ 100) (w : World) : Calls Try.prog 46 #[.int .i64 (n : Int), .int .i64 (k : Int)] w fun e w' => ∃ v, e = .returned (.agg #[v]) ∧ MemsAt (fun _ => True) 1 w' v (uniM n k n) ∧ Below w.heap.size w w' := by
  obtain ⟨i4, hi4, hy0, hy1, hy2⟩ := info_parts infoMember
  obtain ⟨i0, hin, hz0, hz1, hz2⟩ := info_parts infoInt
  have hb2 : Below w.heap.size w ((w.alloc (.cells #[.slice none 0 0] 27)).alloc (.cells #[.int .i64 (k : Int), .slice none 0 0, .slice none 0 0] 41)) := balloc (balloc (bref w) _) _
  have k1 : ((w.alloc (.cells #[.slice none 0 0] 27)).alloc (.cells #[.int .i64 (k : Int), .slice none 0 0, .slice none 0 0] 41)).heap[w.heap.size]? = some (.cells #[.slice none 0 0] 27 (0, 0)) := alloc_on (alloc_at rfl)
  have k2 : OutAt ((w.alloc (.cells #[.slice none 0 0] 27)).alloc (.cells #[.int .i64 (k : Int), .slice none 0 0, .slice none 0 0] 41)) (w.heap.size + 1) (k : Int) (.slice none 0 0) (.slice none 0 0) := alloc_at (alloc_sz _ _)
  have hsz : ((w.alloc (.cells #[.slice none 0 0] 27)).alloc (.cells #[.int .i64 (k : Int), .slice none 0 0, .slice none 0 0] 41)).heap.size = w.heap.size + 2 := by rw [alloc_sz, alloc_sz]
  have HB := Lib.hid hb2
  have K1 := Lib.hid k1
  have K2 := Lib.hid k2
  clear hb2 k1 k2
  go_enter Try.func46, Try.ntmps46
  go_upto_region 2 with fail
  generalize ((w.alloc (.cells #[.slice none 0 0] 27)).alloc (.cells #[.int .i64 (k : Int), .slice none 0 0, .slice none 0 0] 41)) = W1 at *
  generalize hg : w.heap.size = g at *
  have HG := Lib.hid hg
  clear hg
  go_wp2_with fail
  go_loopw [6] (fun t W => ∃ (j : Nat) (v : Value), j ≤ n ∧ t = .int .i64 j ∧ W.ownsRow (g + 2) 3 1 v j ((nodU j).map (Value.int .i64)) ∧ Hid (OutAt W (g + 1) (k : Int) v (.slice none 0 0)) ∧ Hid (W1.grownBy W (some (g + 1)))) (fun t _ => n - (intOf t).toNat)
  case atStart => exact ⟨0, .slice none 0 0, by omega, rfl, World.ownsRow_nil _ _ _ _, K2, Lib.hid (World.grownBy.refl _ _)⟩
  case round =>
    obtain ⟨j, v, hj, rfl, hown, hO, hGr⟩ := hrel
    have hwr := hGr.out.size
    by_cases hlt : j < n
    · have HOW := Lib.hid (fun (q : Nat) (hq : v.ownBlock = some q) => hown.lt q hq)
      obtain ⟨o0, o1, o2⟩ := hO.out.cs
      have hol := hO.out.lt
      have HNU := Lib.hid (nodU_succ j)
      go_wp2_with (at_builtin; refine wpList_append_own _ rfl _ _ 22 rfl (g + 2) 3 i0 (.int .i64 0) 1 8 Try.underlying22 hin hz0 hz1 hz2 rfl (by decide) _ _ _ rfl (hown.alloc _) ⟨wr.heap.size, 0, none⟩ 1 1 [.int .i64 (j : Int)] rfl rfl (cell_one_new _ _ _) (fun u hu => by simp at hu; subst hu; rfl) (by unfold maxLen; omega) (by omega) (by simp; omega) ?_; intro v' W3 hown3 hgrow3 hnil; obtain ⟨gq, cq, rfl, hgq, hlq⟩ := hown3.form (by omega); have hO3 : OutAt W3 (g + 1) (k : Int) v (.slice none 0 0) := hO.out.keep ((hgrow3.block _ (by simp; omega) (fun e => by have := (HOW.out _ e.symm).1; omega)).trans (Below.heap_alloc _ _ _ hol)); obtain ⟨r0, r1, r2⟩ := hO3.cs; have rf1 := hO3.fr 1)
      have hgB : (wr.alloc (.cells #[.int .i64 (j : Int)] 3)).grownBy W3 v.ownBlock := ⟨hgrow3.os, hgrow3.tape, hgrow3.output, hgrow3.size, hgrow3.block⟩
      have HG4 := Lib.hid (grown_at (gown (grown_trans hGr.out (grown_below (balloc (bref wr) (.cells #[.int .i64 (j : Int)] 3)))) hgB (fun q hq => by have := (HOW.out q hq).1; omega)) 1 (.slice (some ⟨gq, 0, none⟩) (j + 1) cq))
      have HO4 := Lib.hid (hO3.set1 (.slice (some ⟨gq, 0, none⟩) (j + 1) cq))
      have hown4 := Lib.hid ((list_snoc hown3).kept (gset1 W3 ⟨g + 1, 1, none⟩ (.slice (some ⟨gq, 0, none⟩) (j + 1) cq)) (own_below (list_snoc hown3) (by first | omega | simp)))
      clear hgB hown3 hgrow3 hnil hgq hlq hO3 r0 r1 r2 rf1 hown
      go_wp2_with fail
      go_roundw
      case rel => exact ⟨j + 1, _, by omega, by go_num, by rw [HNU.out]; exact hown4.out, HO4, HG4⟩
      case measure => simp [intOf]; omega
    · obtain rfl : j = n := by omega
      obtain ⟨Av, cv, rfl⟩ := own_slice hown
      have hN := NodesAt.of_own (ns := nodU j) (by rw [nodU_len]; exact hown)
      have HN := Lib.hid hN
      obtain ⟨W2, hW2⟩ : ∃ x, x = wr := ⟨_, rfl⟩
      subst hW2
      have hgl2 : g + 2 ≤ W2.heap.size := by omega
      have kc : (W2.alloc (.cells #[.slice none 0 0] 27)).heap[W2.heap.size]? = some (.cells #[.slice none 0 0] 27 (0, 0)) := alloc_at rfl
      have HKC := Lib.hid kc
      have hbc := balloc (bref W2) (.cells #[.slice none 0 0] 27)
      have HO2 := Lib.hid (hO.out.keep (hbc.block _ hO.out.lt))
      have hTT : TAt (fun b => g + 2 ≤ b ∧ b < W2.heap.size) 1 (W2.alloc (.cells #[.slice none 0 0] 27)) (.int .i64 (k : Int)) (.slice Av j cv) (.slice none 0 0) (uniT j k) := by
        have hlen := nodU_len j
        obtain ⟨A', c', e1, e2⟩ := hN
        rw [hlen] at e1 e2
        cases e1
        refine ⟨rfl, by rw [hlen]; omega, by simp, ⟨Av, cv, by rw [hlen], fun q hq => ?_⟩, ⟨none, 0, rfl, fun k T hT => by simp at hT⟩⟩
        rw [hlen] at hq
        obtain ⟨b, off, f1, f2, f3⟩ := e2 q hq
        exact ⟨b, off, f1, ⟨f2, cell_lt f3⟩, (hbc.cell (cell_lt f3)).trans f3⟩
      have HTT := Lib.hid hTT
      have HGC := Lib.hid (grown_trans hGr.out (grown_below (r := some (g + 1)) hbc))
      have hszc : (W2.alloc (.cells #[.slice none 0 0] 27)).heap.size = W2.heap.size + 1 := alloc_sz _ _
      clear hown hN hO hbc hTT kc hGr
      go_upto_region 7 with fail
      generalize hWc : W2.alloc (.cells #[.slice none 0 0] 27) = Wc at *
      clear hWc
      obtain ⟨cb, hcb⟩ : ∃ cb, W2.heap.size = cb := ⟨_, rfl⟩
      have HCB := Lib.hid hcb
      rw [hcb] at HKC HTT hszc hgl2 ⊢
      clear hcb
      go_wp2_with fail
      go_loopw [8] (fun t W => ∃ (i : Nat) (v : Value), i ≤ j ∧ t = .int .i64 i ∧ Hid (RowP (fun b => g + 2 ≤ b ∧ b < cb) (cb + 1) 1 W v (uniM j k i)) ∧ Hid (W.heap[cb]? = some (.cells #[v] 27 (0, 0))) ∧ Hid (Wc.grownBy W (some cb))) (fun t _ => j - (intOf t).toNat)
      case atStart => exact ⟨0, .slice none 0 0, by omega, rfl, Lib.hid ⟨[], World.ownsRow_nil _ _ _ _, fun k T h => by simp [uniM] at h⟩, HKC, Lib.hid (World.grownBy.refl _ _)⟩
      case round =>
        obtain ⟨i, v, hi, rfl, hRow, hOut, hGw⟩ := hrel
        have hwr2 := hGw.out.size
        by_cases hlt2 : i < j
        · have HRS := Lib.hid (uniM_succ j k i)
          have HRL := Lib.hid (uniM_len j k i)
          obtain ⟨cs, hcs, hcl⟩ := hRow.out
          have hcn := hcs.1
          have HCL := Lib.hid hcl
          have HCS := Lib.hid hcs
          have HRO := Lib.hid hcs.lt
          obtain ⟨wo, hwo⟩ : ∃ x, x = wr := ⟨_, rfl⟩
          subst hwo
          have hOx := HO2.out.keep (hGw.out.block (g + 1) HO2.out.lt (by simp; omega))
          obtain ⟨x0, x1, x2⟩ := hOx.cs
          have HTo := Lib.hid (TAt.keep (w' := wo) (fun q hq hP => hGw.out.block q hq (by simp; omega)) HTT.out)
          have HCSA := Lib.hid (HCS.out.alloc (.cells #[.bool true, .int .i64 (k : Int), .slice Av j cv, .slice none 0 0] 44))
          have hba2 := balloc (bref wo) (.cells #[.bool true, .int .i64 (k : Int), .slice Av j cv, .slice none 0 0] 44)
          have HBA2 := Lib.hid hba2
          have HSZA := Lib.hid (alloc_sz wo (.cells #[.bool true, .int .i64 (k : Int), .slice Av j cv, .slice none 0 0] 44))
          have hcl3 : cb < wo.heap.size := by omega
          have q2 : wo.cell? ⟨cb, 0, none⟩ = some v := cell_of_row _ _ 0 _ _ (0, 0) hOut.out
          clear hba2 hcl hcs hOx
          go_wp2_with (at_builtin; refine wpList_append_lies _ rfl _ _ 25 rfl (cb + 1) 44 i4 (.agg #[.bool false, .int .i64 0, .slice none 0 0, .slice none 0 0]) 4 64 Try.underlying25 hi4 hy0 hy1 hy2 rfl (by decide) _ (uniM j k i).length cs rfl (by exact HCSA.out) ⟨_, 0, none⟩ 1 1 [.bool true, .int .i64 (k : Int), .slice Av j cv, .slice none 0 0] rfl rfl (cell_four_new _ _ _ _ _ _) (by intro u hu; simp at hu; rcases hu with rfl | rfl | rfl | rfl <;> rfl) (by omega) (by have := HRL.out; unfold maxLen; omega) (by have := HRL.out; omega) (by have := HSZA.out; omega) _ rfl ?_; intro g4 cap4 W5 hown4 hgrow4 hat4 hlt4; have hcb5 : W5.heap[cb]? = some (.cells #[v] 27 (0, 0)) := (hgrow4.block cb (by have := HSZA.out; omega) (fun e => by have := (HRO.out _ e.symm).1; omega)).trans ((HBA2.out.block cb hcl3).trans hOut.out); have s0 : W5.cell? ⟨cb, 0, none⟩ = some v := cell_of_row _ _ 0 _ _ (0, 0) hcb5; have sf : W5.frozen? ⟨cb, 0, none⟩ = false := by simp [World.frozen?, hcb5])
          have hlow5 : ∀ q, q < cb + 1 → q ≠ cb → (W5.setCell ⟨cb, 0, none⟩ (.slice (some ⟨g4, 0, none⟩) ((uniM j k i).length + 1) cap4)).heap[q]? = wo.heap[q]? := fun q hq hn =>
            (Below.heap_setCell _ _ _ _ (by simpa using hn)).trans ((hgrow4.block q (by have := HSZA.out; omega) (fun e => by have := (HRO.out _ e.symm).1; omega)).trans (HBA2.out.block q (by omega)))
          have hown5 := hown4.kept (gset1 W5 ⟨cb, 0, none⟩ (.slice (some ⟨g4, 0, none⟩) ((uniM j k i).length + 1) cap4)) (.inr (by have h1 := (hown4.lt g4 rfl).1; simp [Value.ownBlock]; omega))
          have hrow5 := RowP.app (m := (true, uniT j k)) HCL.out hcn (fun q hq _ => hlow5 q (by omega) (by omega)) HTo.out hown5
          have hset5 : (W5.setCell ⟨cb, 0, none⟩ (.slice (some ⟨g4, 0, none⟩) ((uniM j k i).length + 1) cap4)).heap[cb]? = some (.cells #[.slice (some ⟨g4, 0, none⟩) ((uniM j k i).length + 1) cap4] 27 (0, 0)) := by
            simp [World.setCell, Array.getElem?_modify, hcb5]
          have hgr5 : Wc.grownBy (W5.setCell ⟨cb, 0, none⟩ (.slice (some ⟨g4, 0, none⟩) ((uniM j k i).length + 1) cap4)) (some cb) :=
            grown_at (gown (grown_trans hGw.out (grown_below HBA2.out)) ⟨hgrow4.os, hgrow4.tape, hgrow4.output, hgrow4.size, hgrow4.block⟩ (fun q hq => by have := (HRO.out q hq).1; omega)) 0 _
          rw [← HRS.out] at hrow5
          have HROW := Lib.hid hrow5
          have HSET := Lib.hid hset5
          have HGR := Lib.hid hgr5
          clear hlow5 hown5 hrow5 hset5 hgr5 hown4 hgrow4 hat4 hlt4 hcb5 s0 sf x0 x1 x2
          go_roundw
          case rel => exact ⟨i + 1, _, by omega, by go_num, HROW, HSET, HGR⟩
          case measure => simp [intOf]; omega
        · obtain rfl : j = i := by omega
          obtain ⟨Aw, cw, hv⟩ : ∃ A c, v = .slice A (uniM j k j).length c := by
            obtain ⟨A, c, h1⟩ := hRow.out.mems.slice
            exact ⟨A, c, h1⟩
          rw [uniM_len] at hv
          subst hv
          have c2 : wr.cell? ⟨cb, 0, none⟩ = some (.slice Aw j cw) := cell_of_row _ _ 0 _ _ (0, 0) hOut.out
          have HGA := Lib.hid (show W1.grownBy Wc (some (g + 1)) from HGC.out)
          have hres0 : Wc.heap[g]? = some (.cells #[.slice none 0 0] 27 (0, 0)) := (HGA.out.block g (by omega) (by simp)).trans K1.out
          have hres : wr.heap[g]? = some (.cells #[.slice none 0 0] 27 (0, 0)) := (hGw.out.block g (by omega) (by simp; omega)).trans hres0
          have z0 : wr.cell? ⟨g, 0, none⟩ = some (.slice none 0 0) := cell_of_row _ _ 0 _ _ (0, 0) hres
          have zf : wr.frozen? ⟨g, 0, none⟩ = false := by simp [World.frozen?, hres]
          have hset : (wr.setCell ⟨g, 0, none⟩ (.slice Aw j cw)).heap[g]? = some (.cells #[.slice Aw j cw] 27 (0, 0)) := by
            simp [World.setCell, Array.getElem?_modify, hres]
          have q0 : (wr.setCell ⟨g, 0, none⟩ (.slice Aw j cw)).cell? ⟨g, 0, none⟩ = some (.slice Aw j cw) := cell_of_row _ _ 0 _ _ (0, 0) hset
          have hms : MemsAt (fun _ => True) 1 (wr.setCell ⟨g, 0, none⟩ (.slice Aw j cw)) (.slice Aw j cw) (uniM j k j) := by
            exact (hRow.out.keep (fun q _ hq => Below.heap_setCell _ _ _ _ (by simp; omega))).mems
          have hbW : Below w.heap.size w (wr.setCell ⟨g, 0, none⟩ (.slice Aw j cw)) := by
            have h1 := HB.out
            rw [← HG.out] at h1
            have h2 := (h1.grown HGA.out h1.size (fun q hq => by obtain rfl := Option.some.inj hq; have := HG.out; omega))
            have h3 := h2.grown hGw.out h2.size (fun q hq => by obtain rfl := Option.some.inj hq; have := HG.out; omega)
            exact bset h3 (p := ⟨g, 0, none⟩) (by have := HG.out; show w.heap.size ≤ g; omega) _
          have HF := Lib.hid (And.intro hms hbW)
          have Q0 := Lib.hid q0
          clear hset q0 hms hbW hres
          go_wp2_with fail
          have q0 := Q0.out
          refine bodyPost_ret (v := .agg #[.slice Aw j cw]) ?_ rfl ⟨_, rfl, HF.out⟩
          simp [results, Try.results46, go_sem, q0]
end Go.Proofs.Ytoaekbhbbejgmaa
