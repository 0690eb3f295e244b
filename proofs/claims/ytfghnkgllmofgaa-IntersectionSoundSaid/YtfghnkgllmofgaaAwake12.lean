/- Fused. -/
import Derived.Test.YtfghnkgllmofgaaSize12
import Derived.Test.YtfghnkgllmofgaaUnif
import Derived.Test.YtfghnkgllmofgaaRestrictRun
namespace Go.Proofs.Ytfghnkgllmofgaa
set_option linter.unusedVariables false
set_option linter.unusedSimpArgs false
open Go.RowKit

/-- Members in a row of its own, with trusts that lie below B0. -/
def RowP (P : Nat → Prop) (B d : Nat) (W : World) (v : Value) (rs : List Mem) : Prop :=
  ∃ cs : List Value, W.ownsRow B 53 4 v rs.length cs ∧ ∀ k m, rs[k]? = some m → ∃ x0 x1 x2, cs[k * 4]? = some (.bool m.1) ∧ cs[k * 4 + 1]? = some x0 ∧ cs[k * 4 + 2]? = some x1 ∧ cs[k * 4 + 3]? = some x2 ∧ TAt P d W x0 x1 x2 m.2

theorem RowP.app {P : Nat → Prop} {B d : Nat} {wo W5 : World} {v' x0 x1 x2 : Value} {rs : List Mem} {m : Mem} {cs : List Value}
    (hcl : ∀ k m, rs[k]? = some m → ∃ x0 x1 x2, cs[k * 4]? = some (.bool m.1) ∧ cs[k * 4 + 1]? = some x0 ∧ cs[k * 4 + 2]? = some x1 ∧ cs[k * 4 + 3]? = some x2 ∧ TAt P d wo x0 x1 x2 m.2) (hcn : cs.length = rs.length * 4)
    (keep : ∀ q, P q → q < wo.heap.size → W5.heap[q]? = wo.heap[q]?) (hT : TAt P d wo x0 x1 x2 m.2) (hown5 : W5.ownsRow B 53 4 v' (rs.length + 1) (cs ++ [.bool m.1, x0, x1, x2])) : RowP P B d W5 v' (rs ++ [m]) := by
  refine ⟨cs ++ [.bool m.1, x0, x1, x2], by simpa using hown5, fun k S hS => ?_⟩
  rcases Nat.lt_or_ge k rs.length with hk | hk
  · rw [List.getElem?_append_left hk] at hS
    obtain ⟨y0, y1, y2, e0, e1, e2, e3, e4⟩ := hcl k S hS
    exact ⟨y0, y1, y2, by rw [List.getElem?_append_left (by omega)]; exact e0, by rw [List.getElem?_append_left (by omega)]; exact e1, by rw [List.getElem?_append_left (by omega)]; exact e2, by rw [List.getElem?_append_left (by omega)]; exact e3, e4.keep (fun q hq hP => keep q hP hq)⟩
  · have hk2 : k = rs.length := by
      have := (List.getElem?_eq_some_iff.1 hS).1
      simp at this; omega
    subst hk2
    have hS' : S = m := by simpa using hS.symm
    subst hS'
    refine ⟨x0, x1, x2, ?_, ?_, ?_, ?_, hT.keep (fun q hq hP => keep q hP hq)⟩
    · rw [List.getElem?_append_right (by omega)]; simp [hcn]
    · rw [List.getElem?_append_right (by omega), show rs.length * 4 + 1 - cs.length = 1 by omega]; rfl
    · rw [List.getElem?_append_right (by omega), show rs.length * 4 + 2 - cs.length = 2 by omega]; rfl
    · rw [List.getElem?_append_right (by omega), show rs.length * 4 + 3 - cs.length = 3 by omega]; rfl

theorem RowP.keep {P : Nat → Prop} {B d : Nat} {W W' : World} {v : Value} {rs : List Mem} (h : RowP P B d W v rs) (hk : ∀ q, q < W.heap.size → (P q ∨ B ≤ q) → W'.heap[q]? = W.heap[q]?) : RowP P B d W' v rs := by
  obtain ⟨cs, h1, h2⟩ := h
  refine ⟨cs, own_keepG h1 (fun j _ hB hl => hk j hl (.inr hB)), fun k m hm => ?_⟩
  obtain ⟨x0, x1, x2, e0, e1, e2, e3, e4⟩ := h2 k m hm
  exact ⟨x0, x1, x2, e0, e1, e2, e3, e4.keep (fun q hq hP => hk q hq (.inl hP))⟩

theorem RowP.mems {P : Nat → Prop} {B d : Nat} {W : World} {v : Value} {rs : List Mem} (h : RowP P B d W v rs) : MemsAt (fun _ => True) d W v rs := by
  obtain ⟨cs, h1, h2⟩ := h
  rcases h1.2 with ⟨hv, h0⟩ | ⟨g, cap, cur, hv, hb, _⟩
  · exact ⟨none, 0, by rw [hv, h0], fun k T hT => by have := (List.getElem?_eq_some_iff.1 hT).1; omega⟩
  · refine ⟨some ⟨g, 0, none⟩, cap, hv, fun k m hm => ?_⟩
    obtain ⟨x0, x1, x2, e0, e1, e2, e3, e4⟩ := h2 k m hm
    have c : ∀ j u, cs[j]? = some u → W.cell? ⟨g, 0 + j, none⟩ = some u := fun j u hu => by
      have := h1.cells (g := g) (by rw [hv]; rfl) j u hu
      rwa [Addr.add_lit] at this
    exact ⟨g, 0, x0, x1, x2, rfl, trivial, c _ _ e0, by rw [Nat.add_assoc]; exact c _ _ e1, by rw [Nat.add_assoc]; exact c _ _ e2, by rw [Nat.add_assoc]; exact c _ _ e3, e4.imp (fun q _ hq => trivial)⟩

set_option maxRecDepth 100000 in
set_option maxHeartbeats 4000000 in
theorem same12_run (n k : Nat) (hn : n ≤ 10) (hk : k ≤ 100) (w : World) : Calls Try.prog 27 #[.int .i64 (n : Int), .int .i64 (k : Int)] w fun e w' => ∃ v, e = .returned (.agg #[v]) ∧ MemsAt (fun _ => True) 1 w' v (uniM n k n) ∧ Below w.heap.size w w' := by
  obtain ⟨i4, hi4, hy0, hy1, hy2⟩ := info_parts infoMember
  obtain ⟨i0, hin, hz0, hz1, hz2⟩ := info_parts infoInt
  have hb2 : Below w.heap.size w ((w.alloc (.cells #[.slice none 0 0] 27)).alloc (.cells #[.int .i64 (k : Int), .slice none 0 0, .slice none 0 0] 49)) := balloc (balloc (bref w) _) _
  have k1 : ((w.alloc (.cells #[.slice none 0 0] 27)).alloc (.cells #[.int .i64 (k : Int), .slice none 0 0, .slice none 0 0] 49)).heap[w.heap.size]? = some (.cells #[.slice none 0 0] 27 (0, 0)) := alloc_on (alloc_at rfl)
  have k2 : OutAt ((w.alloc (.cells #[.slice none 0 0] 27)).alloc (.cells #[.int .i64 (k : Int), .slice none 0 0, .slice none 0 0] 49)) (w.heap.size + 1) (k : Int) (.slice none 0 0) (.slice none 0 0) := alloc_at (alloc_sz _ _)
  have hsz : ((w.alloc (.cells #[.slice none 0 0] 27)).alloc (.cells #[.int .i64 (k : Int), .slice none 0 0, .slice none 0 0] 49)).heap.size = w.heap.size + 2 := by rw [alloc_sz, alloc_sz]
  have HB := Lib.hid hb2
  have K1 := Lib.hid k1
  have K2 := Lib.hid k2
  clear hb2 k1 k2
  go_enter Try.func27, Try.ntmps27
  go_upto_region 2 with fail
  generalize ((w.alloc (.cells #[.slice none 0 0] 27)).alloc (.cells #[.int .i64 (k : Int), .slice none 0 0, .slice none 0 0] 49)) = W1 at *
  generalize hg : w.heap.size = g at *
  have HG := Lib.hid hg
  clear hg
  go_wp2_with fail
  go_loopw [6] (fun t W => ∃ (j : Nat) (v : Value), j ≤ n ∧ t = .int .i64 j ∧ W.ownsRow (g + 2) 3 1 v j ((nodU j).map (Value.int .i64)) ∧ Hid (OutAt W (g + 1) (k : Int) v (.slice none 0 0)) ∧ Hid (W1.grownBy W (some (g + 1)))) (fun t _ => n - (intOf t).toNat)
  case atStart => exact ⟨0, .slice none 0 0, by omega, rfl, World.ownsRow_nil _ _ _ _, K2, Lib.hid (World.grownBy.refl _ _)⟩
  case round =>
    obtain ⟨j, v, hj, rfl, hown, hO, hGr⟩ := hrel
    have hwr := hGr.out.size
    by_cases hlt : j < n
    · have HOW := Lib.hid (fun (q : Nat) (hq : v.ownBlock = some q) => hown.lt q hq)
      obtain ⟨o0, o1, o2⟩ := hO.out.cs
      have hol := hO.out.lt
      have HNU := Lib.hid (nodU_succ j)
      go_wp2_with (at_builtin; refine wpList_append_own _ rfl _ _ 22 rfl (g + 2) 3 i0 (.int .i64 0) 1 8 Try.underlying22 hin hz0 hz1 hz2 rfl (by decide) _ _ _ rfl (hown.alloc _) ⟨wr.heap.size, 0, none⟩ 1 1 [.int .i64 (j : Int)] rfl rfl (cell_one_new _ _ _) (fun u hu => by simp at hu; subst hu; rfl) (by unfold maxLen; omega) (by omega) (by simp; omega) ?_; intro v' W3 hown3 hgrow3 hnil; obtain ⟨gq, cq, rfl, hgq, hlq⟩ := hown3.form (by omega); have hO3 : OutAt W3 (g + 1) (k : Int) v (.slice none 0 0) := hO.out.keep ((hgrow3.block _ (by simp; omega) (fun e => by have := (HOW.out _ e.symm).1; omega)).trans (Below.heap_alloc _ _ _ hol)); obtain ⟨r0, r1, r2⟩ := hO3.cs; have rf1 := hO3.fr 1)
      have hgB : (wr.alloc (.cells #[.int .i64 (j : Int)] 3)).grownBy W3 v.ownBlock := ⟨hgrow3.os, hgrow3.tape, hgrow3.output, hgrow3.size, hgrow3.block⟩
      have HG4 := Lib.hid (grown_at (gown (grown_trans hGr.out (grown_below (balloc (bref wr) (.cells #[.int .i64 (j : Int)] 3)))) hgB (fun q hq => by have := (HOW.out q hq).1; omega)) 1 (.slice (some ⟨gq, 0, none⟩) (j + 1) cq))
      have HO4 := Lib.hid (hO3.set1 (.slice (some ⟨gq, 0, none⟩) (j + 1) cq))
      have hown4 := Lib.hid ((list_snoc hown3).kept (gset1 W3 ⟨g + 1, 1, none⟩ (.slice (some ⟨gq, 0, none⟩) (j + 1) cq)) (own_below (list_snoc hown3) (by first | omega | simp)))
      clear hgB hown3 hgrow3 hnil hgq hlq hO3 r0 r1 r2 rf1 hown
      go_wp2_with fail
      go_roundw
      case rel => exact ⟨j + 1, _, by omega, by go_num, by rw [HNU.out]; exact hown4.out, HO4, HG4⟩
      case measure => simp [intOf]; omega
    · obtain rfl : j = n := by omega
      obtain ⟨Av, cv, rfl⟩ := own_slice hown
      have hN := NodesAt.of_own (ns := nodU j) (by rw [nodU_len]; exact hown)
      have HN := Lib.hid hN
      obtain ⟨W2, hW2⟩ : ∃ x, x = wr := ⟨_, rfl⟩
      subst hW2
      have hgl2 : g + 2 ≤ W2.heap.size := by omega
      have kc : (W2.alloc (.cells #[.slice none 0 0] 27)).heap[W2.heap.size]? = some (.cells #[.slice none 0 0] 27 (0, 0)) := alloc_at rfl
      have HKC := Lib.hid kc
      have hbc := balloc (bref W2) (.cells #[.slice none 0 0] 27)
      have HO2 := Lib.hid (hO.out.keep (hbc.block _ hO.out.lt))
      have hTT : TAt (fun b => g + 2 ≤ b ∧ b < W2.heap.size) 1 (W2.alloc (.cells #[.slice none 0 0] 27)) (.int .i64 (k : Int)) (.slice Av j cv) (.slice none 0 0) (uniT j k) := by
        have hlen := nodU_len j
        obtain ⟨A', c', e1, e2⟩ := hN
        rw [hlen] at e1 e2
        cases e1
        refine ⟨rfl, by rw [hlen]; omega, by simp, ⟨Av, cv, by rw [hlen], fun q hq => ?_⟩, ⟨none, 0, rfl, fun k T hT => by simp at hT⟩⟩
        rw [hlen] at hq
        obtain ⟨b, off, f1, f2, f3⟩ := e2 q hq
        exact ⟨b, off, f1, ⟨f2, cell_lt f3⟩, (hbc.cell (cell_lt f3)).trans f3⟩
      have HTT := Lib.hid hTT
      have HGC := Lib.hid (grown_trans hGr.out (grown_below (r := some (g + 1)) hbc))
      have hszc : (W2.alloc (.cells #[.slice none 0 0] 27)).heap.size = W2.heap.size + 1 := alloc_sz _ _
      clear hown hN hO hbc hTT kc hGr
      go_upto_region 7 with fail
      generalize hWc : W2.alloc (.cells #[.slice none 0 0] 27) = Wc at *
      clear hWc
      obtain ⟨cb, hcb⟩ : ∃ cb, W2.heap.size = cb := ⟨_, rfl⟩
      have HCB := Lib.hid hcb
      rw [hcb] at HKC HTT hszc hgl2 ⊢
      clear hcb
      go_wp2_with fail
      go_loopw [8] (fun t W => ∃ (i : Nat) (v : Value), i ≤ j ∧ t = .int .i64 i ∧ Hid (RowP (fun b => g + 2 ≤ b ∧ b < cb) (cb + 1) 1 W v (uniM j k i)) ∧ Hid (W.heap[cb]? = some (.cells #[v] 27 (0, 0))) ∧ Hid (Wc.grownBy W (some cb))) (fun t _ => j - (intOf t).toNat)
      case atStart => exact ⟨0, .slice none 0 0, by omega, rfl, Lib.hid ⟨[], World.ownsRow_nil _ _ _ _, fun k T h => by simp [uniM] at h⟩, HKC, Lib.hid (World.grownBy.refl _ _)⟩
      case round =>
        obtain ⟨i, v, hi, rfl, hRow, hOut, hGw⟩ := hrel
        have hwr2 := hGw.out.size
        by_cases hlt2 : i < j
        · have HRS := Lib.hid (uniM_succ j k i)
          have HRL := Lib.hid (uniM_len j k i)
          obtain ⟨cs, hcs, hcl⟩ := hRow.out
          have hcn := hcs.1
          have HCL := Lib.hid hcl
          have HCS := Lib.hid hcs
          have HRO := Lib.hid hcs.lt
          obtain ⟨wo, hwo⟩ : ∃ x, x = wr := ⟨_, rfl⟩
          subst hwo
          have hOx := HO2.out.keep (hGw.out.block (g + 1) HO2.out.lt (by simp; omega))
          obtain ⟨x0, x1, x2⟩ := hOx.cs
          have HTo := Lib.hid (TAt.keep (w' := wo) (fun q hq hP => hGw.out.block q hq (by simp; omega)) HTT.out)
          have HCSA := Lib.hid (HCS.out.alloc (.cells #[.bool true, .int .i64 (k : Int), .slice Av j cv, .slice none 0 0] 53))
          have hba2 := balloc (bref wo) (.cells #[.bool true, .int .i64 (k : Int), .slice Av j cv, .slice none 0 0] 53)
          have HBA2 := Lib.hid hba2
          have HSZA := Lib.hid (alloc_sz wo (.cells #[.bool true, .int .i64 (k : Int), .slice Av j cv, .slice none 0 0] 53))
          have hcl3 : cb < wo.heap.size := by omega
          have q2 : wo.cell? ⟨cb, 0, none⟩ = some v := cell_of_row _ _ 0 _ _ (0, 0) hOut.out
          clear hba2 hcl hcs hOx
          go_wp2_with (at_builtin; refine wpList_append_lies _ rfl _ _ 25 rfl (cb + 1) 53 i4 (.agg #[.bool false, .int .i64 0, .slice none 0 0, .slice none 0 0]) 4 64 Try.underlying25 hi4 hy0 hy1 hy2 rfl (by decide) _ (uniM j k i).length cs rfl (by exact HCSA.out) ⟨_, 0, none⟩ 1 1 [.bool true, .int .i64 (k : Int), .slice Av j cv, .slice none 0 0] rfl rfl (cell_four_new _ _ _ _ _ _) (by intro u hu; simp at hu; rcases hu with rfl | rfl | rfl | rfl <;> rfl) (by omega) (by have := HRL.out; unfold maxLen; omega) (by have := HRL.out; omega) (by have := HSZA.out; omega) _ rfl ?_; intro g4 cap4 W5 hown4 hgrow4 hat4 hlt4; have hcb5 : W5.heap[cb]? = some (.cells #[v] 27 (0, 0)) := (hgrow4.block cb (by have := HSZA.out; omega) (fun e => by have := (HRO.out _ e.symm).1; omega)).trans ((HBA2.out.block cb hcl3).trans hOut.out); have s0 : W5.cell? ⟨cb, 0, none⟩ = some v := cell_of_row _ _ 0 _ _ (0, 0) hcb5; have sf : W5.frozen? ⟨cb, 0, none⟩ = false := by simp [World.frozen?, hcb5])
          have hlow5 : ∀ q, q < cb + 1 → q ≠ cb → (W5.setCell ⟨cb, 0, none⟩ (.slice (some ⟨g4, 0, none⟩) ((uniM j k i).length + 1) cap4)).heap[q]? = wo.heap[q]? := fun q hq hn =>
            (Below.heap_setCell _ _ _ _ (by simpa using hn)).trans ((hgrow4.block q (by have := HSZA.out; omega) (fun e => by have := (HRO.out _ e.symm).1; omega)).trans (HBA2.out.block q (by omega)))
          have hown5 := hown4.kept (gset1 W5 ⟨cb, 0, none⟩ (.slice (some ⟨g4, 0, none⟩) ((uniM j k i).length + 1) cap4)) (.inr (by have h1 := (hown4.lt g4 rfl).1; simp [Value.ownBlock]; omega))
          have hrow5 := RowP.app (m := (true, uniT j k)) HCL.out hcn (fun q hq _ => hlow5 q (by omega) (by omega)) HTo.out hown5
          have hset5 : (W5.setCell ⟨cb, 0, none⟩ (.slice (some ⟨g4, 0, none⟩) ((uniM j k i).length + 1) cap4)).heap[cb]? = some (.cells #[.slice (some ⟨g4, 0, none⟩) ((uniM j k i).length + 1) cap4] 27 (0, 0)) := by
            simp [World.setCell, Array.getElem?_modify, hcb5]
          have hgr5 : Wc.grownBy (W5.setCell ⟨cb, 0, none⟩ (.slice (some ⟨g4, 0, none⟩) ((uniM j k i).length + 1) cap4)) (some cb) :=
            grown_at (gown (grown_trans hGw.out (grown_below HBA2.out)) ⟨hgrow4.os, hgrow4.tape, hgrow4.output, hgrow4.size, hgrow4.block⟩ (fun q hq => by have := (HRO.out q hq).1; omega)) 0 _
          rw [← HRS.out] at hrow5
          have HROW := Lib.hid hrow5
          have HSET := Lib.hid hset5
          have HGR := Lib.hid hgr5
          clear hlow5 hown5 hrow5 hset5 hgr5 hown4 hgrow4 hat4 hlt4 hcb5 s0 sf x0 x1 x2
          go_roundw
          case rel => exact ⟨i + 1, _, by omega, by go_num, HROW, HSET, HGR⟩
          case measure => simp [intOf]; omega
        · obtain rfl : j = i := by omega
          obtain ⟨Aw, cw, hv⟩ : ∃ A c, v = .slice A (uniM j k j).length c := by
            obtain ⟨A, c, h1⟩ := hRow.out.mems.slice
            exact ⟨A, c, h1⟩
          rw [uniM_len] at hv
          subst hv
          have c2 : wr.cell? ⟨cb, 0, none⟩ = some (.slice Aw j cw) := cell_of_row _ _ 0 _ _ (0, 0) hOut.out
          have HGA := Lib.hid (show W1.grownBy Wc (some (g + 1)) from HGC.out)
          have hres0 : Wc.heap[g]? = some (.cells #[.slice none 0 0] 27 (0, 0)) := (HGA.out.block g (by omega) (by simp)).trans K1.out
          have hres : wr.heap[g]? = some (.cells #[.slice none 0 0] 27 (0, 0)) := (hGw.out.block g (by omega) (by simp; omega)).trans hres0
          have z0 : wr.cell? ⟨g, 0, none⟩ = some (.slice none 0 0) := cell_of_row _ _ 0 _ _ (0, 0) hres
          have zf : wr.frozen? ⟨g, 0, none⟩ = false := by simp [World.frozen?, hres]
          have hset : (wr.setCell ⟨g, 0, none⟩ (.slice Aw j cw)).heap[g]? = some (.cells #[.slice Aw j cw] 27 (0, 0)) := by
            simp [World.setCell, Array.getElem?_modify, hres]
          have q0 : (wr.setCell ⟨g, 0, none⟩ (.slice Aw j cw)).cell? ⟨g, 0, none⟩ = some (.slice Aw j cw) := cell_of_row _ _ 0 _ _ (0, 0) hset
          have hms : MemsAt (fun _ => True) 1 (wr.setCell ⟨g, 0, none⟩ (.slice Aw j cw)) (.slice Aw j cw) (uniM j k j) := by
            exact (hRow.out.keep (fun q _ hq => Below.heap_setCell _ _ _ _ (by simp; omega))).mems
          have hbW : Below w.heap.size w (wr.setCell ⟨g, 0, none⟩ (.slice Aw j cw)) := by
            have h1 := HB.out
            rw [← HG.out] at h1
            have h2 := (h1.grown HGA.out h1.size (fun q hq => by obtain rfl := Option.some.inj hq; have := HG.out; omega))
            have h3 := h2.grown hGw.out h2.size (fun q hq => by obtain rfl := Option.some.inj hq; have := HG.out; omega)
            exact bset h3 (p := ⟨g, 0, none⟩) (by have := HG.out; show w.heap.size ≤ g; omega) _
          have HF := Lib.hid (And.intro hms hbW)
          have Q0 := Lib.hid q0
          clear hset q0 hms hbW hres
          go_wp2_with fail
          have q0 := Q0.out
          refine bodyPost_ret (v := .agg #[.slice Aw j cw]) ?_ rfl ⟨_, rfl, HF.out⟩
          simp [results, Try.results27, go_sem, q0]

end Go.Proofs.Ytfghnkgllmofgaa

namespace Go.Proofs.Ytfghnkgllmofgaa
set_option linter.unusedVariables false
set_option linter.unusedSimpArgs false
open Go.RowKit

theorem keepW {W W' : World} {Q : Nat → Prop} {g : Nat} {T : Tr} {k n s : Value} (h : W.cell? ⟨g, 0, none⟩ = some k ∧ W.cell? ⟨g, 1, none⟩ = some n ∧ W.cell? ⟨g, 2, none⟩ = some s ∧ TrAt Q W T k n s) (hb : Below W.heap.size W W') : W'.cell? ⟨g, 0, none⟩ = some k ∧ W'.cell? ⟨g, 1, none⟩ = some n ∧ W'.cell? ⟨g, 2, none⟩ = some s ∧ TrAt Q W' T k n s :=
  ⟨(hb.cell (cell_lt h.1)).trans h.1, (hb.cell (cell_lt h.2.1)).trans h.2.1, (hb.cell (cell_lt h.2.2.1)).trans h.2.2.1, h.2.2.2.below hb⟩

set_option maxRecDepth 100000 in
set_option maxHeartbeats 4000000 in
theorem prove12_run (P : Nat → Prop) (ms : List Mem) (v : Value) (w : World) (hl : ms.length ≤ 10) (h : MemsAt P 2 w v ms) (hok : MemsOk ms.length ms) (hno : ∀ t, t < 2 ^ ms.length → ¬ Apart 2 ms t) :
    Calls Try.prog 7 #[.agg #[v]] w fun e w' => ∃ (x0 x1 x2 : Value) (T : Tr), e = .returned (.tuple #[.agg #[x0, x1, x2], .int .i64 0]) ∧ TrAt (fun b => w.heap.size ≤ b) w' T x0 x1 x2 ∧ RightT 2 ms T 0 0 ∧ Below w.heap.size w w' := by
  obtain ⟨A, c, rfl⟩ := h.slice
  have hb1 : Below w.heap.size w ((w.alloc (.cells #[.slice A ms.length c] 27)).alloc (.cells #[.int .i64 0, .int .i64 0, .slice none 0 0] 31)) := balloc (balloc (bref w) _) _
  have k0 : ((w.alloc (.cells #[.slice A ms.length c] 27)).alloc (.cells #[.int .i64 0, .int .i64 0, .slice none 0 0] 31)).heap[w.heap.size]? = some (.cells #[.slice A ms.length c] 27 (0, 0)) := alloc_on (alloc_at rfl)
  have k1 : ((w.alloc (.cells #[.slice A ms.length c] 27)).alloc (.cells #[.int .i64 0, .int .i64 0, .slice none 0 0] 31)).heap[w.heap.size + 1]? = some (.cells #[.int .i64 0, .int .i64 0, .slice none 0 0] 31 (0, 0)) := alloc_at (alloc_sz _ _)
  have H := Lib.hid (h.below hb1)
  have HB := Lib.hid hb1
  have K0 := Lib.hid k0
  have K1 := Lib.hid k1
  have HNO := Lib.hid hno
  have hu : und ms.length 0 0 < 11 := by have := und_le ms.length 0 0; omega
  clear h hb1 k0 k1
  go_enter Try.func7, Try.ntmps7
  go_upto_region 1 with fail
  generalize ((w.alloc (.cells #[.slice A ms.length c] 27)).alloc (.cells #[.int .i64 0, .int .i64 0, .slice none 0 0] 31)) = W1 at *
  generalize hg : w.heap.size = g at *
  have HG := Lib.hid hg
  clear hg
  have c0 : W1.cell? ⟨g, 0, none⟩ = some (.slice A ms.length c) := cell_of_row _ _ 0 _ _ (0, 0) K0.out
  have HBw := Lib.hid (show Below w.heap.size w W1 by rw [HG.out]; exact HB.out)
  go_wp2_with fail
  refine (holds12_run P ms _ _ hl H.out hok).mono ?_
  rintro e W2 ⟨hho, hb2⟩
  have he : e = .returned (.tuple #[.bool true, .int .i64 0]) := by
    rcases hho with ⟨h1, _⟩ | ⟨_, t, ht, hA⟩
    · exact h1
    · exact (HNO.out t ht hA).elim
  subst he
  have HK2 := Lib.hid (keepT ⟨c0, K1.out, H.out⟩ hb2)
  have HB2 := Lib.hid (bstep HBw.out hb2)
  have c2 := HK2.out.1
  clear hho hb2 c0 hno
  go_wp2_with fail
  refine (search_run P 2 ms _ hl HNO.out 11 _ 0 0 (by omega) (by omega) hu HK2.out.2.2).mono ?_
  rintro e W3 ⟨x0, x1, x2, T, rfl, hT, hR, hb3⟩
  obtain ⟨Kk, Nn, Aa, mm, cc, rfl, rfl, rfl⟩ := hT.form
  have HK3 := Lib.hid (keepT HK2.out hb3)
  have HB3 := Lib.hid (bstep HB2.out hb3)
  have HR := Lib.hid hR
  have HT := Lib.hid hT
  have zo : TOut W3 (g + 1) (.int .i64 0) (.int .i64 0) (.slice none 0 0) := HK3.out.2.1
  obtain ⟨z0, z1, z2⟩ := zo.cs
  have f0 := zo.fr 0
  have f1 := zo.fr 1
  have f2 := zo.fr 2
  have HSET := Lib.hid (zo.set (.int .i64 Kk) (.int .i64 Nn) (.slice Aa mm cc))
  have hg2 : g + 2 ≤ W2.heap.size := by
    have h2 := HK2.out.2.1
    rcases Nat.lt_or_ge (g + 1) W2.heap.size with h3 | h3
    · omega
    · rw [Array.getElem?_eq_none h3] at h2; cases h2
  have hsw := HB2.out.size
  have HTT := Lib.hid (show TrAt (fun b => w.heap.size ≤ b) (((W3.setCell ⟨g + 1, 0, none⟩ (.int .i64 Kk)).setCell ⟨g + 1, 1, none⟩ (.int .i64 Nn)).setCell ⟨g + 1, 2, none⟩ (.slice Aa mm cc)) T (.int .i64 Kk) (.int .i64 Nn) (.slice Aa mm cc) from
    TrAt.both (fun q hq hP => TOut.far _ _ _ q (by omega)) (fun q hP => by omega) HT.out)
  have HZ := Lib.hid (bset (bset (bset HB3.out (p := ⟨g + 1, 0, none⟩) (by rw [HG.out]; show g ≤ g + 1; omega) (.int .i64 Kk)) (p := ⟨g + 1, 1, none⟩) (by rw [HG.out]; show g ≤ g + 1; omega) (.int .i64 Nn)) (p := ⟨g + 1, 2, none⟩) (by rw [HG.out]; show g ≤ g + 1; omega) (.slice Aa mm cc))
  clear hb3 c2 zo hR hT
  go_wp2_with fail
  obtain ⟨q0, q1, q2⟩ := HSET.out.cs
  refine bodyPost_ret (v := .tuple #[.agg #[.int .i64 Kk, .int .i64 Nn, .slice Aa mm cc], .int .i64 0]) ?_ rfl ⟨_, _, _, T, rfl, HTT.out, HR.out, HZ.out⟩
  simp [results, Try.results7, go_sem, q0, q1, q2]

theorem dis31 {e : Ending} (h : DisjOk 2 (uniM 3 1 3) e) : e = .returned (.tuple #[.int .i64 1, .int .i64 6, .int .i64 0]) := by
  rcases h with ⟨i, a, b, rfl, hi, hA, hgr, _, hno⟩ | ⟨_, hno⟩
  · rw [uniM_len] at hi
    have h0 : i ≠ 0 := fun e => by
      subst e
      rw [ord3.1] at hi
      obtain rfl : 0 = a := Option.some.inj hi
      exact hA.1.1 rfl
    have h1 : i ≤ 1 := by
      rcases Nat.lt_or_ge 1 i with h | h
      · exact (hno 1 1 h (by rw [uniM_len]; exact ord3.2) uni31_1).elim
      · exact h
    obtain rfl : i = 1 := by omega
    rw [ord3.2] at hi
    obtain rfl : 1 = a := Option.some.inj hi
    obtain rfl := uni31_b hgr
    rfl
  · exact (hno 1 (by rw [uniM_len]; omega) uni31_1).elim

set_option maxRecDepth 100000 in
set_option maxHeartbeats 8000000 in
theorem awake12 (w : World) : Calls Try.prog 11 #[] w fun e w' => e = .returned (.bool true) ∧ Below w.heap.size w w' := by
  have HOK2 := Lib.hid (uni_ok (n := 3) (k := 2) (by omega) (by omega) (by omega))
  have HOK1 := Lib.hid (uni_ok (n := 3) (k := 1) (by omega) (by omega) (by omega))
  have hl2 : (uniM 3 2 3).length ≤ 10 := by decide
  have hl1 : (uniM 3 1 3).length ≤ 10 := by decide
  have HNO := Lib.hid (show ∀ t, t < 2 ^ (uniM 3 2 3).length → ¬ Apart 2 (uniM 3 2 3) t from fun t ht hA => by
    rw [uniM_len] at ht
    have := (uni_apart (d := 1) (n := 3) (k := 2) (by omega) (by omega) (by omega)).1 ⟨t, ht, hA⟩
    omega)
  go_enter Try.func11, Try.ntmps11
  go_wp2_with fail
  refine (same12_run 3 2 (by omega) (by omega) _).mono ?_
  rintro e w1 ⟨v1, rfl, hm1, hb1⟩
  go_wp2_with fail
  refine (holds12_run _ _ _ _ hl2 hm1.up HOK2.out).mono ?_
  rintro e w2 ⟨hho, hb2⟩
  have he : e = .returned (.tuple #[.bool true, .int .i64 0]) := by
    rcases hho with ⟨h1, _⟩ | ⟨_, t, ht, hA⟩
    · exact h1
    · exact (HNO.out t ht hA).elim
  subst he
  have HB2 := Lib.hid (bstep hb1 hb2)
  clear hho hm1 hb1 hb2
  go_wp2_with fail
  refine (same12_run 3 1 (by omega) (by omega) _).mono ?_
  rintro e w3 ⟨v3, rfl, hm3, hb3⟩
  go_wp2_with fail
  refine (disjoint12_run _ _ _ _ hl1 hm3.up HOK1.out).mono ?_
  rintro e w4 ⟨hdj, hb4⟩
  obtain rfl := dis31 hdj
  have HB4 := Lib.hid (bstep (bstep HB2.out hb3) hb4)
  clear hdj hm3 hb3 hb4
  go_wp2_with fail
  refine (same12_run 3 2 (by omega) (by omega) _).mono ?_
  rintro e w5 ⟨v5, rfl, hm5, hb5⟩
  go_wp2_with fail
  refine (prove12_run _ _ _ _ hl2 hm5.up HOK2.out HNO.out).mono ?_
  rintro e w6 ⟨x0, x1, x2, T, rfl, hT, hR, hb6⟩
  obtain ⟨K1, N1, A1, m1, c1, rfl, rfl, rfl⟩ := hT.form
  have HRT := Lib.hid hR
  have hsl := size_le hl2 hR
  have hs1 : 1 < sizeTr T := by
    rcases T with _ | _ | ⟨nd, a, b⟩
    · exfalso
      have hG : Av 2 (uniM 3 2 3) 0 7 := by
        have hD : declS (uniM 3 2 3) (uniM 3 2 3).length = 7 := by decide
        refine ⟨⟨?_, (uni_closed (by omega) (by omega) (by omega)).2 (by decide), fun q _ hq _ => ?_⟩, by omega⟩
        · rw [hD, uniM_len]; exact sub_iff.1 (by decide)
        · rw [hD, uniM_len, show outS 3 0 &&& 7 = 7 by decide] at hq; exact hq
      rcases hR 7 hG with h | h
      · omega
      · exact h (fun k hk => by simp at hk)
    · exfalso
      have hG : Av 2 (uniM 3 2 3) 0 7 := by
        have hD : declS (uniM 3 2 3) (uniM 3 2 3).length = 7 := by decide
        refine ⟨⟨?_, (uni_closed (by omega) (by omega) (by omega)).2 (by decide), fun q _ hq _ => ?_⟩, by omega⟩
        · rw [hD, uniM_len]; exact sub_iff.1 (by decide)
        · rw [hD, uniM_len, show outS 3 0 &&& 7 = 7 by decide] at hq; exact hq
      have := hR 7 hG
      omega
    · show 1 < 1 + sizeTr a + sizeTr b
      have := size_le2 a
      have := size_le2 b
      omega
  have HB6 := Lib.hid (bstep (bstep HB4.out hb5) hb6)
  have hba := balloc (bref w6) (.cells #[.int .i64 K1, .int .i64 N1, .slice A1 m1 c1] 31)
  have k6 : TOut (w6.alloc (.cells #[.int .i64 K1, .int .i64 N1, .slice A1 m1 c1] 31)) w6.heap.size (.int .i64 K1) (.int .i64 N1) (.slice A1 m1 c1) := alloc_at rfl
  have HS := Lib.hid (show _ ∧ _ ∧ _ ∧ _ from ⟨k6.cs.1, k6.cs.2.1, k6.cs.2.2, hT.below hba⟩)
  have HBA := Lib.hid (balloc HB6.out (.cells #[.int .i64 K1, .int .i64 N1, .slice A1 m1 c1] 31))
  clear hm5 hb5 hb6 hR hT hba k6
  have hgt : (1 : Int) < ((sizeTr T : Nat) : Int) := by omega
  go_upto_region 4 with fail
  generalize w6.alloc (.cells #[.int .i64 K1, .int .i64 N1, .slice A1 m1 c1] 31) = W7 at *
  generalize w6.heap.size = g6 at *
  have hS := Lib.hid (keepW HS.out (bdrewT W7))
  refine wp_region_noPanic ?_
  refine wp_region_held_drew (S := fun W => W.cell? ⟨g6, 0, none⟩ = some (.int .i64 K1) ∧ W.cell? ⟨g6, 1, none⟩ = some (.int .i64 N1) ∧ W.cell? ⟨g6, 2, none⟩ = some (.slice A1 m1 c1) ∧ TrAt (fun b => w5.heap.size ≤ b) W T (.int .i64 K1) (.int .i64 N1) (.slice A1 m1 c1)) (by kernel_rfl) hS.out (fun hHeld => ?_)
  refine take_d (some 24) (i := 0) (v := ?_) rfl rfl (by kernel_rfl) (by kernel_rfl) (by kernel_rfl) (fun _ _ _ h => h) (Or.inl ⟨by rfl, ?_⟩) (by assumption) ?_
  rotate_left
  · intro w hSw; (try dsimp only at hSw); go_simp; (try with_reducible rfl)
  try simp only [Act.put, List.setIfInBounds_toArray, List.set_cons_zero, List.set_cons_succ]
  refine take_d (some 25) (i := 1) (v := ?_) rfl rfl (by kernel_rfl) (by kernel_rfl) (by kernel_rfl) (fun _ _ _ h => h) (Or.inl ⟨by rfl, ?_⟩) (by assumption) ?_
  rotate_left
  · intro w hSw; (try dsimp only at hSw); go_simp; (try with_reducible rfl)
  try simp only [Act.put, List.setIfInBounds_toArray, List.set_cons_zero, List.set_cons_succ]
  refine take_d (some 26) (i := 2) (v := ?_) rfl rfl (by kernel_rfl) (by kernel_rfl) (by kernel_rfl) (fun _ _ _ h => h) (Or.inl ⟨by rfl, ?_⟩) (by assumption) ?_
  rotate_left
  · intro w hSw; (try dsimp only at hSw); go_simp; (try with_reducible rfl)
  try simp only [Act.put, List.setIfInBounds_toArray, List.set_cons_zero, List.set_cons_succ]
  refine take_d (some 27) (i := 3) (v := ?_) rfl rfl (by kernel_rfl) (by kernel_rfl) (by kernel_rfl) (fun _ _ _ h => h) (Or.inl ⟨by rfl, ?_⟩) (by assumption) ?_
  rotate_left
  · intro w hSw; (try dsimp only at hSw); go_simp; (try with_reducible rfl)
  try simp only [Act.put, List.setIfInBounds_toArray, List.set_cons_zero, List.set_cons_succ]
  refine take_d (some 28) (i := 4) (v := ?_) rfl rfl (by kernel_rfl) (by kernel_rfl) (by kernel_rfl) (fun _ _ _ h => h) (Or.inl ⟨by rfl, ?_⟩) (by assumption) ?_
  rotate_left
  · intro w hSw; (try dsimp only at hSw); go_simp; (try with_reducible rfl)
  try simp only [Act.put, List.setIfInBounds_toArray, List.set_cons_zero, List.set_cons_succ]
  refine take_d (some 29) (i := 5) (v := ?_) rfl rfl (by kernel_rfl) (by kernel_rfl) (by kernel_rfl) (fun _ _ _ h => h) (Or.inl ⟨by rfl, ?_⟩) (by assumption) ?_
  rotate_left
  · intro w hSw; (try dsimp only at hSw); go_simp; (try with_reducible rfl)
  try simp only [Act.put, List.setIfInBounds_toArray, List.set_cons_zero, List.set_cons_succ]
  refine take_d (some 30) (i := 6) (v := ?_) rfl rfl (by kernel_rfl) (by kernel_rfl) (by kernel_rfl) (fun _ _ _ h => h) (Or.inl ⟨by rfl, ?_⟩) (by assumption) ?_
  rotate_left
  · intro w hSw; (try dsimp only at hSw); go_simp; (try with_reducible rfl)
  try simp only [Act.put, List.setIfInBounds_toArray, List.set_cons_zero, List.set_cons_succ]
  refine take_d (some 31) (i := 7) (v := ?_) rfl rfl (by kernel_rfl) (by kernel_rfl) (by kernel_rfl) (fun _ _ _ h => h) (Or.inl ⟨by rfl, ?_⟩) (by assumption) ?_
  rotate_left
  · intro w hSw; (try dsimp only at hSw); go_simp; (try with_reducible rfl)
  try simp only [Act.put, List.setIfInBounds_toArray, List.set_cons_zero, List.set_cons_succ]
  refine take_d (some 32) (i := 8) (v := ?_) rfl rfl (by kernel_rfl) (by kernel_rfl) (by kernel_rfl) (fun _ _ _ h => h) (Or.inl ⟨by rfl, ?_⟩) (by assumption) ?_
  rotate_left
  · intro w hSw; (try dsimp only at hSw); go_simp; (try with_reducible rfl)
  try simp only [Act.put, List.setIfInBounds_toArray, List.set_cons_zero, List.set_cons_succ]
  refine take_d (some 33) (i := 9) (v := ?_) rfl rfl (by kernel_rfl) (by kernel_rfl) (by kernel_rfl) (fun _ _ _ h => h) (Or.inl ⟨by rfl, ?_⟩) (by assumption) ?_
  rotate_left
  · intro w hSw; (try dsimp only at hSw); go_simp; (try with_reducible rfl)
  try simp only [Act.put, List.setIfInBounds_toArray, List.set_cons_zero, List.set_cons_succ]
  refine take_d (some 34) (i := 10) (v := ?_) rfl rfl (by kernel_rfl) (by kernel_rfl) (by kernel_rfl) (fun _ _ _ h => h) (Or.inl ⟨by rfl, ?_⟩) (by assumption) ?_
  rotate_left
  · intro w hSw; (try dsimp only at hSw); go_simp; (try with_reducible rfl)
  try simp only [Act.put, List.setIfInBounds_toArray, List.set_cons_zero, List.set_cons_succ]
  refine take_d (some 35) (i := 11) (v := ?_) rfl rfl (by kernel_rfl) (by kernel_rfl) (by kernel_rfl) (fun _ _ _ h => h) (Or.inl ⟨by rfl, ?_⟩) (by assumption) ?_
  rotate_left
  · intro w hSw; (try dsimp only at hSw); go_simp; (try with_reducible rfl)
  try simp only [Act.put, List.setIfInBounds_toArray, List.set_cons_zero, List.set_cons_succ]
  refine take_d (some 36) (i := 12) (v := ?_) rfl rfl (by kernel_rfl) (by kernel_rfl) (by kernel_rfl) (fun _ _ _ h => h) (Or.inl ⟨by rfl, ?_⟩) (by assumption) ?_
  rotate_left
  · intro w hSw; (try dsimp only at hSw); go_simp; (try with_reducible rfl)
  try simp only [Act.put, List.setIfInBounds_toArray, List.set_cons_zero, List.set_cons_succ]
  refine take_d (some 37) (i := 13) (v := ?_) rfl rfl (by kernel_rfl) (by kernel_rfl) (by kernel_rfl) (fun _ _ _ h => h) (Or.inl ⟨by rfl, ?_⟩) (by assumption) ?_
  rotate_left
  · intro w hSw; (try dsimp only at hSw); go_simp; (try with_reducible rfl)
  try simp only [Act.put, List.setIfInBounds_toArray, List.set_cons_zero, List.set_cons_succ]
  refine take_d (some 38) (i := 14) (v := ?_) rfl rfl (by kernel_rfl) (by kernel_rfl) (by kernel_rfl) (fun _ _ _ h => h) (Or.inl ⟨by rfl, ?_⟩) (by assumption) ?_
  rotate_left
  · intro w hSw; (try dsimp only at hSw); go_simp; (try with_reducible rfl)
  try simp only [Act.put, List.setIfInBounds_toArray, List.set_cons_zero, List.set_cons_succ]
  refine take_d (some 39) (i := 15) (v := ?_) rfl rfl (by kernel_rfl) (by kernel_rfl) (by kernel_rfl) (fun _ _ _ h => h) (Or.inl ⟨by rfl, ?_⟩) (by assumption) ?_
  rotate_left
  · intro w hSw; (try dsimp only at hSw); go_simp; (try with_reducible rfl)
  try simp only [Act.put, List.setIfInBounds_toArray, List.set_cons_zero, List.set_cons_succ]
  refine take_d (some 40) (i := 16) (v := ?_) rfl rfl (by kernel_rfl) (by kernel_rfl) (by kernel_rfl) (fun _ _ _ h => h) (Or.inl ⟨by rfl, ?_⟩) (by assumption) ?_
  rotate_left
  · intro w hSw; (try dsimp only at hSw); go_simp; (try with_reducible rfl)
  try simp only [Act.put, List.setIfInBounds_toArray, List.set_cons_zero, List.set_cons_succ]
  refine take_d (some 41) (i := 17) (v := ?_) rfl rfl (by kernel_rfl) (by kernel_rfl) (by kernel_rfl) (fun _ _ _ h => h) (Or.inl ⟨by rfl, ?_⟩) (by assumption) ?_
  rotate_left
  · intro w hSw; (try dsimp only at hSw); go_simp; (try with_reducible rfl)
  try simp only [Act.put, List.setIfInBounds_toArray, List.set_cons_zero, List.set_cons_succ]
  refine take_d (some 42) (i := 18) (v := ?_) rfl rfl (by kernel_rfl) (by kernel_rfl) (by kernel_rfl) (fun _ _ _ h => h) (Or.inl ⟨by rfl, ?_⟩) (by assumption) ?_
  rotate_left
  · intro w hSw; (try dsimp only at hSw); go_simp; (try with_reducible rfl)
  try simp only [Act.put, List.setIfInBounds_toArray, List.set_cons_zero, List.set_cons_succ]
  refine take_d (some 43) (i := 19) (v := ?_) rfl rfl (by kernel_rfl) (by kernel_rfl) (by kernel_rfl) (fun _ _ _ h => h) (Or.inl ⟨by rfl, ?_⟩) (by assumption) ?_
  rotate_left
  · intro w hSw; (try dsimp only at hSw); go_simp; (try with_reducible rfl)
  try simp only [Act.put, List.setIfInBounds_toArray, List.set_cons_zero, List.set_cons_succ]
  refine take_d (some 44) (i := 20) (v := ?_) rfl rfl (by kernel_rfl) (by kernel_rfl) (by kernel_rfl) (fun _ _ _ h => h) (Or.inl ⟨by rfl, ?_⟩) (by assumption) ?_
  rotate_left
  · intro w hSw; (try dsimp only at hSw); go_simp; (try with_reducible rfl)
  try simp only [Act.put, List.setIfInBounds_toArray, List.set_cons_zero, List.set_cons_succ]
  refine take_d (some 45) (i := 21) (v := ?_) rfl rfl (by kernel_rfl) (by kernel_rfl) (by kernel_rfl) (fun _ _ _ h => h) (Or.inl ⟨by rfl, ?_⟩) (by assumption) ?_
  rotate_left
  · intro w hSw; (try dsimp only at hSw); go_simp; (try with_reducible rfl)
  try simp only [Act.put, List.setIfInBounds_toArray, List.set_cons_zero, List.set_cons_succ]
  refine take_d (some 47) (i := 23) (v := ?_) rfl rfl (by kernel_rfl) (by kernel_rfl) (by kernel_rfl) (fun _ _ _ h => h) (Or.inl ⟨by rfl, ?_⟩) (by assumption) ?_
  rotate_left
  · intro w hSw; (try dsimp only at hSw); go_simp; (try with_reducible rfl)
  try simp only [Act.put, List.setIfInBounds_toArray, List.set_cons_zero, List.set_cons_succ]
  refine wpAnyH_ready (rs := [22]) (by kernel_rfl) (by simp) ?_
  refine AllReadyH.cons rfl (fun K hK => ?_) AllReadyH.nil
  go_simp
  refine (same12_run 3 2 (by omega) (by omega) _).mono ?_; rintro e WK ⟨vs, rfl, hm7, hbK⟩; have hSK := keepW (by assumption) hbK
  go_wp2_with fail
  refine hK.out _ _ ?_ (fun hHeld => ?_)
  · first | exact hSK2 | exact hSK1 | exact hSK
  clear hK K
  try simp only [Act.put, List.setIfInBounds_toArray, List.set_cons_zero, List.set_cons_succ]
  refine wpAnyH_ready (rs := [24]) (by kernel_rfl) (by simp) ?_
  refine AllReadyH.cons rfl (fun K hK => ?_) AllReadyH.nil
  go_simp
  refine (check12_run _ _ (uniM 3 2 3) _ T _ _ _ _ (by decide) hm7.up HOK2.out hSK.2.2.2 HRT.out).mono ?_; rintro e WK1 ⟨rfl, hbK1⟩; have hSK1 := keepW hSK hbK1
  go_wp2_with fail
  refine hK.out _ _ ?_ (fun hHeld => ?_)
  · first | exact hSK2 | exact hSK1 | exact hSK
  clear hK K
  try simp only [Act.put, List.setIfInBounds_toArray, List.set_cons_zero, List.set_cons_succ]
  refine take_d (some 49) (i := 25) (v := ?_) rfl rfl (by kernel_rfl) (by kernel_rfl) (by kernel_rfl) (fun _ _ _ h => h) (Or.inl ⟨by rfl, ?_⟩) (by assumption) ?_
  rotate_left
  · intro w hSw; (try dsimp only at hSw); go_simp; (try with_reducible rfl)
  try simp only [Act.put, List.setIfInBounds_toArray, List.set_cons_zero, List.set_cons_succ]
  refine take_d (some 50) (i := 26) (v := ?_) rfl rfl (by kernel_rfl) (by kernel_rfl) (by kernel_rfl) (fun _ _ _ h => h) (Or.inl ⟨by rfl, ?_⟩) (by assumption) ?_
  rotate_left
  · intro w hSw; (try dsimp only at hSw); go_simp; (try with_reducible rfl)
  try simp only [Act.put, List.setIfInBounds_toArray, List.set_cons_zero, List.set_cons_succ]
  refine take_d (some 51) (i := 27) (v := ?_) rfl rfl (by kernel_rfl) (by kernel_rfl) (by kernel_rfl) (fun _ _ _ h => h) (Or.inl ⟨by rfl, ?_⟩) (by assumption) ?_
  rotate_left
  · intro w hSw; (try dsimp only at hSw); go_simp; (try with_reducible rfl)
  try simp only [Act.put, List.setIfInBounds_toArray, List.set_cons_zero, List.set_cons_succ]
  refine wpAnyH_ready (rs := [28]) (by kernel_rfl) (by simp) ?_
  refine AllReadyH.cons rfl (fun K hK => ?_) AllReadyH.nil
  go_simp
  refine (size12_run _ T _ _ _ _ (by omega) hSK1.2.2.2).mono ?_; rintro e WK2 ⟨rfl, hbK2⟩; have hSK2 := keepW hSK1 hbK2
  go_wp2_with fail
  refine hK.out _ _ ?_ (fun hHeld => ?_)
  · first | exact hSK2 | exact hSK1 | exact hSK
  clear hK K
  try simp only [Act.put, List.setIfInBounds_toArray, List.set_cons_zero, List.set_cons_succ]
  refine take_d (some 53) (i := 29) (v := ?_) rfl rfl (by kernel_rfl) (by kernel_rfl) (by kernel_rfl) (fun _ _ _ h => h) (Or.inl ⟨by rfl, ?_⟩) (by assumption) ?_
  rotate_left
  · intro w hSw; (try dsimp only at hSw); go_simp; (try with_reducible rfl)
  try simp only [Act.put, List.setIfInBounds_toArray, List.set_cons_zero, List.set_cons_succ]
  refine take_d (some 54) (i := 30) (v := ?_) rfl rfl (by kernel_rfl) (by kernel_rfl) (by kernel_rfl) (fun _ _ _ h => h) (Or.inl ⟨by rfl, ?_⟩) (by assumption) ?_
  rotate_left
  · intro w hSw; (try dsimp only at hSw); go_simp; (try with_reducible rfl)
  try simp only [Act.put, List.setIfInBounds_toArray, List.set_cons_zero, List.set_cons_succ]
  refine take_d (some 0) (i := 31) (v := ?_) rfl rfl (by kernel_rfl) (by kernel_rfl) (by kernel_rfl) (fun _ _ _ h => h) (Or.inl ⟨by rfl, ?_⟩) (by assumption) ?_
  rotate_left
  · intro w hSw; (try dsimp only at hSw); go_simp; (try with_reducible rfl)
  try simp only [Act.put, List.setIfInBounds_toArray, List.set_cons_zero, List.set_cons_succ]
  refine wpAnyH_done (by kernel_rfl) ?_ _
  refine NoPanic.normal ?_
  have HZ := Lib.hid (bstep (bstep (bstep (bstep HBA.out (bdrewT W7)) hbK) hbK1) hbK2)
  clear hSK hSK1 hSK2 hHeld hS hm7 hbK hbK1 hbK2
  go_wp2_with fail
  go_ret
  exact ⟨rfl, HZ.out⟩

end Go.Proofs.Ytfghnkgllmofgaa
