/- The contract of trustquorumlaw18.shown. -/
import Derived.Test.YtbbdmaakphoofaaMkSet
namespace Go.Proofs.Ytbbdmaakphoofaa
set_option linter.unusedVariables false
set_option linter.unusedSimpArgs false
open Go.RowKit

theorem agree_app {xs ms : List Mem} {s k : Nat} {m : Mem} (hl : xs.length = k) (h : ∀ j, j < k → s.testBit j = false → xs[j]? = ms[j]?) (hm : s.testBit k = false → ms[k]? = some m) : ∀ j, j < k + 1 → s.testBit j = false → (xs ++ [m])[j]? = ms[j]? := fun j hj hb => by
  rcases Nat.lt_or_ge j k with h1 | h1
  · rw [List.getElem?_append_left (by omega)]; exact h j h1 hb
  · obtain rfl : j = k := by omega
    rw [List.getElem?_append_right (by omega), hm hb, hl]; simp

theorem qne {P : Nat → Prop} {sb g q : Nat} (h : ∀ b, P b → sb < b) (hs : sb < g) (hq : (P q ∧ q < g ∨ g + 3 ≤ q) ∨ g + 3 ≤ q) : q ≠ sb ∧ g + 1 ≠ q ∧ g ≠ q ∧ g + 2 ≠ q := by
  rcases hq with (h1 | h1) | h1
  · have := h _ h1.1; omega
  · omega
  · omega

set_option maxRecDepth 100000 in
set_option maxHeartbeats 8000000 in
theorem shown_run (P : Nat → Prop) (sb : Nat) (hPs : ∀ b, P b → sb < b) (ms : List Mem) (v : Value) (s : Nat) (w : World) (hl0 : 1 ≤ ms.length) (hl : ms.length ≤ 10) (hs : s < 1024) (ht : TapeOk w sb) (h : MemsAt P 2 w v ms) :
    Calls Try.prog 20 #[.pointer (some ⟨sb, 0, none⟩), .agg #[v], .int .i64 (s : Int)] w fun e w' => ∃ (v' : Value) (xs : List Mem), e = .returned (.agg #[v']) ∧ xs.length = ms.length ∧ MemsAt (fun b => P b ∨ w.heap.size ≤ b) 2 w' v' xs ∧ (∀ k, k < ms.length → s.testBit k = false → xs[k]? = ms[k]?) ∧ TapeOk w' sb ∧ w.grownBy w' (some sb) := by
  obtain ⟨AA, cA, rfl⟩ := h.slice
  obtain ⟨i4, hi4, hy0, hy1, hy2⟩ := info_parts infoMember
  have hsbl := ht.lt
  have hb3 : Below w.heap.size w (((w.alloc (.cells #[.slice AA ms.length cA] 27)).alloc (.cells #[.slice none 0 0] 27)).alloc (.cells #[.slice none 0 0] 27)) := balloc (balloc (balloc (bref w) _) _) _
  have k0 : (((w.alloc (.cells #[.slice AA ms.length cA] 27)).alloc (.cells #[.slice none 0 0] 27)).alloc (.cells #[.slice none 0 0] 27)).heap[w.heap.size]? = some (.cells #[.slice AA ms.length cA] 27 (0, 0)) := alloc_on (alloc_on (alloc_at rfl))
  have k1 : (((w.alloc (.cells #[.slice AA ms.length cA] 27)).alloc (.cells #[.slice none 0 0] 27)).alloc (.cells #[.slice none 0 0] 27)).heap[w.heap.size + 1]? = some (.cells #[.slice none 0 0] 27 (0, 0)) := alloc_on (alloc_at (alloc_sz _ _))
  have k2 : (((w.alloc (.cells #[.slice AA ms.length cA] 27)).alloc (.cells #[.slice none 0 0] 27)).alloc (.cells #[.slice none 0 0] 27)).heap[w.heap.size + 2]? = some (.cells #[.slice none 0 0] 27 (0, 0)) := alloc_at (by rw [alloc_sz, alloc_sz])
  have hsz : (((w.alloc (.cells #[.slice AA ms.length cA] 27)).alloc (.cells #[.slice none 0 0] 27)).alloc (.cells #[.slice none 0 0] 27)).heap.size = w.heap.size + 3 := by rw [alloc_sz, alloc_sz, alloc_sz]
  have HH := Lib.hid h
  have HPS := Lib.hid hPs
  have HTP := Lib.hid (ht.below hb3)
  have HGB := Lib.hid (grown_below (r := some sb) hb3)
  have K0 := Lib.hid k0
  have K1 := Lib.hid k1
  have K2 := Lib.hid k2
  clear h hb3 k0 k1 k2 ht hPs
  go_enter Try.func20, Try.ntmps20
  go_upto_region 2 with fail
  generalize (((w.alloc (.cells #[.slice AA ms.length cA] 27)).alloc (.cells #[.slice none 0 0] 27)).alloc (.cells #[.slice none 0 0] 27)) = W1 at *
  obtain ⟨g, hg⟩ : ∃ g, w.heap.size = g := ⟨_, rfl⟩
  have HG := Lib.hid hg
  rw [hg] at hsz hsbl K0 K1 K2
  try rw [hg]
  try simp only [hg]
  clear hg
  have c0 : W1.cell? ⟨g, 0, none⟩ = some (.slice AA ms.length cA) := cell_of_row _ _ 0 _ _ (0, 0) K0.out
  go_wp2_with fail
  clear c0
  go_loopw [13] (fun t W => ∃ (k : Nat) (v : Value) (xs : List Mem), k ≤ ms.length ∧ t = .int .i64 k ∧ xs.length = k ∧ Hid (GRow (fun b => (P b ∧ b < g) ∨ g + 3 ≤ b) (g + 3) 2 W v xs) ∧ Hid (∀ j, j < k → s.testBit j = false → xs[j]? = ms[j]?) ∧ Hid (W.heap[g + 2]? = some (.cells #[v] 27 (0, 0))) ∧ Hid (TapeOk W sb) ∧ Hid (∀ q, g ≤ q → q < g + 2 → W.heap[q]? = W1.heap[q]?) ∧ Hid (w.grownBy W (some sb))) (fun t _ => ms.length - (intOf t).toNat)
  case atStart => exact ⟨0, .slice none 0 0, [], by omega, rfl, rfl, Lib.hid (GRow.nil _ _ _ _), Lib.hid (fun j hj => by omega), K2, HTP, Lib.hid (fun _ _ _ => rfl), HGB⟩
  case round =>
    obtain ⟨k, v, xs, hk, rfl, hxl, hRow, hAg, hOut, hTP, HLO, hGr⟩ := hrel
    have HXL := Lib.hid hxl
    clear hxl
    have hwr : g + 3 ≤ wr.heap.size := by
      have h2 : wr.heap[g + 2]? ≠ none := by rw [hOut.out]; simp
      have h3 : g + 2 < wr.heap.size := by
        rcases Nat.lt_or_ge (g + 2) wr.heap.size with h1 | h1
        · exact h1
        · exact (h2 (Array.getElem?_eq_none h1)).elim
      omega
    by_cases hlt : k < ms.length
    · obtain ⟨m, hm⟩ : ∃ m, ms[k]? = some m := ⟨_, List.getElem?_eq_getElem hlt⟩
      obtain ⟨b, off, t, A1, n1, c1, A2, n2, c2, rfl, hP, hbl, e0, e1, e2, e3, hT⟩ := memBox HH.out hm
      have lw := hGr.out.block b hbl (by have := HPS.out _ hP; simp; omega)
      have hgq := HG.out
      have d0 := (World.cell?_of_block (a := ⟨b, off + k * 4, none⟩) lw).trans e0
      have d1 := (World.cell?_of_block (a := ⟨b, off + k * 4 + 1, none⟩) lw).trans e1
      have d2 := (World.cell?_of_block (a := ⟨b, off + k * 4 + 2, none⟩) lw).trans e2
      have d3 := (World.cell?_of_block (a := ⟨b, off + k * 4 + 3, none⟩) lw).trans e3
      have hTr : TAt (fun b => P b ∧ b < g) 2 wr (.int .i64 t) (.slice A1 n1 c1) (.slice A2 n2 c2) m.2 := TAt.both (fun q hq hP => hGr.out.block q hq (by have := HPS.out _ hP; simp; omega)) (fun q hq hP => ⟨hP, by omega⟩) _ _ _ _ _ hT
      have hbit := hasB_bit hs (show k < 10 by omega)
      have HMK := Lib.hid hm
      obtain ⟨dec, T⟩ := m
      have hba := balloc (bref wr) (.cells #[.bool dec, .int .i64 t, .slice A1 n1 c1, .slice A2 n2 c2] 62)
      have kx : (wr.alloc (.cells #[.bool dec, .int .i64 t, .slice A1 n1 c1, .slice A2 n2 c2] 62)).heap[wr.heap.size]? = some (.cells #[.bool dec, .int .i64 t, .slice A1 n1 c1, .slice A2 n2 c2] 62 (0, 0)) := alloc_at rfl
      have HKX := Lib.hid kx
      have HTX := Lib.hid (hTr.below hba)
      have HGX := Lib.hid (grown_trans hGr.out (grown_below hba))
      have HLX := Lib.hid (fun q (hq : q < wr.heap.size) => hba.block q hq)
      have HTPX := Lib.hid (hTP.out.below hba)
      have HRW := hRow
      have HOW := hOut
      have HROX := Lib.hid (fun q (hq : v.ownBlock = some q) => (hRow.out.own q hq))
      have HSX := Lib.hid (alloc_sz wr (.cells #[.bool dec, .int .i64 t, .slice A1 n1 c1, .slice A2 n2 c2] 62))
      clear hba kx hTr hT hm hRow hOut hGr lw e0 e1 e2 e3 hgq hTP
      go_upto_region 5 with fail
      generalize wr.alloc (.cells #[.bool dec, .int .i64 t, .slice A1 n1 c1, .slice A2 n2 c2] 62) = W3 at *
      generalize hrq : wr.heap.size = r at *
      have HRQ := Lib.hid hrq
      clear hrq
      have r0 : W3.cell? ⟨r, 0, none⟩ = some (.bool dec) := cell_of_row _ _ 0 _ _ (0, 0) HKX.out
      have r1 : W3.cell? ⟨r, 1, none⟩ = some (.int .i64 t) := cell_of_row _ _ 1 _ _ (0, 0) HKX.out
      have r2 : W3.cell? ⟨r, 2, none⟩ = some (.slice A1 n1 c1) := cell_of_row _ _ 2 _ _ (0, 0) HKX.out
      have r3 : W3.cell? ⟨r, 3, none⟩ = some (.slice A2 n2 c2) := cell_of_row _ _ 3 _ _ (0, 0) HKX.out
      have hrl : r < W3.heap.size := cell_lt r0
      clear d0 d1 d2 d3
      cases hb : s.testBit k
      · rw [hb] at hbit
        go_wp2_with fail
        refine (rhas_run _ _ _).mono ?_
        rintro e w2 ⟨rfl, rfl⟩
        rw [hbit]
        go_upto_region 9 with fail
        have K6 := HKX
        have L6 := Lib.hid (fun q (hq : q < r) (_ : q ≠ sb) => HLX.out q hq)
        have HT6 := Lib.hid (TAt.both (Q := fun b => ((P b ∧ b < g) ∨ g + 3 ≤ b) ∧ v.ownBlock ≠ some b) (w' := W3) (fun _ _ _ => rfl) (fun q _ hP => ⟨.inl hP, fun e => by have := (HROX.out q e).1; have := hP.2; omega⟩) _ _ _ _ _ HTX.out)
        have HG6 := HGX
        have HTP6 := HTPX
        have HAG6 := Lib.hid (agree_app (m := (dec, T)) HXL.out hAg.out (fun _ => HMK.out))
        clear r0 r1 r2 r3
        have x0 : W3.cell? ⟨r, 0, none⟩ = some (.bool dec) := cell_of_row _ _ 0 _ _ (0, 0) K6.out
        have x1 : W3.cell? ⟨r, 1, none⟩ = some (.int .i64 t) := cell_of_row _ _ 1 _ _ (0, 0) K6.out
        have x2 : W3.cell? ⟨r, 2, none⟩ = some (.slice A1 n1 c1) := cell_of_row _ _ 2 _ _ (0, 0) K6.out
        have x3 : W3.cell? ⟨r, 3, none⟩ = some (.slice A2 n2 c2) := cell_of_row _ _ 3 _ _ (0, 0) K6.out
        have hcb6 : W3.heap[g + 2]? = some (.cells #[v] 27 (0, 0)) := (L6.out (g + 2) (by omega) (by omega)).trans HOW.out
        have q2 : W3.cell? ⟨g + 2, 0, none⟩ = some v := cell_of_row _ _ 0 _ _ (0, 0) hcb6
        have HCB6 := Lib.hid hcb6
        have hR6 := HRW.out.keep (W' := W3) (fun q hq hql => L6.out q (by rw [← HRQ.out]; exact hql) (qne HPS.out hsbl hq).1)
        obtain ⟨cs, hcs, hcl⟩ := hR6
        have hcn := hcs.1
        have HCSA := Lib.hid (hcs.alloc (.cells #[.bool dec, .int .i64 t, .slice A1 n1 c1, .slice A2 n2 c2] 62))
        have HNEW := Lib.hid (cell_four_new W3 (.bool dec) (.int .i64 t) (.slice A1 n1 c1) (.slice A2 n2 c2) 62)
        have HBA4 := Lib.hid (balloc (bref W3) (.cells #[.bool dec, .int .i64 t, .slice A1 n1 c1, .slice A2 n2 c2] 62))
        have HSZ4 := Lib.hid (alloc_sz W3 (.cells #[.bool dec, .int .i64 t, .slice A1 n1 c1, .slice A2 n2 c2] 62))
        have HCL := Lib.hid hcl
        have hz6 : r < W3.heap.size := cell_lt x0
        clear hcs hcl hcb6
        go_wp2_with (at_builtin; refine wpList_append_lies _ rfl _ _ 25 rfl (g + 3) 62 i4 (.agg #[.bool false, .int .i64 0, .slice none 0 0, .slice none 0 0]) 4 64 Try.underlying25 hi4 hy0 hy1 hy2 rfl (by decide) _ xs.length cs rfl (by exact HCSA.out) ⟨_, 0, none⟩ 1 1 [.bool dec, .int .i64 t, .slice A1 n1 c1, .slice A2 n2 c2] rfl rfl (by exact HNEW.out) (by intro u hu; simp at hu; rcases hu with rfl | rfl | rfl | rfl <;> rfl) (by omega) (by have := HXL.out; unfold maxLen; omega) (by have := HXL.out; omega) (by have := HSZ4.out; omega) _ rfl ?_; intro g4 cap4 W7 hown4 hgrow4 hat4 hlt4; have hcb5 : W7.heap[g + 2]? = some (.cells #[v] 27 (0, 0)) := (hgrow4.block (g + 2) (by have := HSZ4.out; omega) (fun e => by have := (HROX.out _ e.symm).1; omega)).trans ((HBA4.out.block (g + 2) (by omega)).trans HCB6.out); have s0 : W7.cell? ⟨g + 2, 0, none⟩ = some v := cell_of_row _ _ 0 _ _ (0, 0) hcb5; have sf : W7.frozen? ⟨g + 2, 0, none⟩ = false := by simp [World.frozen?, hcb5])
        have hgB : (W3.alloc (.cells #[.bool dec, .int .i64 t, .slice A1 n1 c1, .slice A2 n2 c2] 62)).grownBy W7 v.ownBlock := ⟨hgrow4.os, hgrow4.tape, hgrow4.output, hgrow4.size, hgrow4.block⟩
        have hrow5 := GRow.append (Q := (fun b => (P b ∧ b < g) ∨ g + 3 ≤ b)) (m := (dec, T)) (WA := W3.alloc (.cells #[.bool dec, .int .i64 t, .slice A1 n1 c1, .slice A2 n2 c2] 62)) (fun k m hm => by
            obtain ⟨z0, z1, z2, e0, e1, e2, e3, e4⟩ := HCL.out k m hm
            exact ⟨z0, z1, z2, e0, e1, e2, e3, e4.below HBA4.out⟩) hcn (HT6.out.below HBA4.out) hown4 hgB hat4
        have HROW5 := Lib.hid (hrow5.keep (W' := W7.setCell ⟨g + 2, 0, none⟩ (.slice (some ⟨g4, 0, none⟩) (xs.length + 1) cap4)) (fun q hq _ => Below.heap_setCell _ _ _ _ (by have := (qne HPS.out hsbl hq).2.2.2; simp; omega)))
        have hset5 : (W7.setCell ⟨g + 2, 0, none⟩ (.slice (some ⟨g4, 0, none⟩) (xs.length + 1) cap4)).heap[g + 2]? = some (.cells #[.slice (some ⟨g4, 0, none⟩) (xs.length + 1) cap4] 27 (0, 0)) := by
          simp [World.setCell, Array.getElem?_modify, hcb5]
        have HSET5 := Lib.hid hset5
        have low7 : ∀ q, q < g + 3 → q ≠ g + 2 → (W7.setCell ⟨g + 2, 0, none⟩ (.slice (some ⟨g4, 0, none⟩) (xs.length + 1) cap4)).heap[q]? = W3.heap[q]? := fun q hq hn =>
          (Below.heap_setCell _ _ _ _ (by simpa using hn)).trans ((hgB.block q (by have := HSZ4.out; omega) (fun e => by have := (HROX.out _ e.symm).1; omega)).trans (HBA4.out.block q (by omega)))
        have HLO5 := Lib.hid (fun q (h1 : g ≤ q) (h2 : q < g + 2) => (low7 q (by omega) (by omega)).trans ((L6.out q (by omega) (by omega)).trans (HLO.out q h1 h2)))
        have HTP5 := Lib.hid (TapeOk.keepLow HTP6.out (fun q hq => low7 q (by omega) (by omega)))
        have HGR5 := Lib.hid (gset (gown (grown_trans HG6.out (grown_below HBA4.out)) hgB (fun q hq => by have := (HROX.out q hq).1; have := HG.out; omega)) (p := ⟨g + 2, 0, none⟩) (by have := HG.out; show w.heap.size ≤ g + 2; omega) (.slice (some ⟨g4, 0, none⟩) (xs.length + 1) cap4))
        have HLE5 := Lib.hid (show (xs ++ [((dec, T) : Mem)]).length = k + 1 by have := HXL.out; simp; omega)
        clear hown4 hgrow4 hat4 hlt4 hcb5 s0 sf hgB hrow5 hset5 low7
        go_roundw
        case rel => exact ⟨k + 1, _, xs ++ [(dec, T)], by omega, by go_num, HLE5.out, HROW5, HAG6, HSET5, HTP5, HLO5, HGR5⟩
        case measure => simp [intOf]; omega
      · rw [hb] at hbit
        have cg : W3.cell? ⟨g, 0, none⟩ = some (.slice (some ⟨b, off, none⟩) ms.length cA) := cell_of_row _ _ 0 _ _ (0, 0) ((HLX.out g (by omega)).trans ((HLO.out g (by omega) (by omega)).trans K0.out))
        have hmt := mkTrust_run sb ms.length hl0 hl 0 (by omega) W3 HTPX.out
        rw [show (((0 + 1 : Nat) : Int)) = 1 from rfl] at hmt
        have HMT := Lib.hid hmt
        clear hmt
        go_wp2_with fail
        refine (rhas_run _ _ _).mono ?_
        rintro e w2 ⟨rfl, rfl⟩
        rw [hbit]
        go_wp2_with fail
        refine HMT.out.mono ?_
        rintro e W4 ⟨v0, v1, v2, T4, rfl, hT4, hF4, hs4, hg4⟩
        obtain ⟨t4, B1, n4, c4, B2, m4, c5, rfl, rfl, rfl⟩ := hT4.form
        have hz4 := hg4.size
        have kz : W4.heap[r]? = some (.cells #[.bool dec, .int .i64 t, .slice A1 n1 c1, .slice A2 n2 c2] 62 (0, 0)) := (hg4.block r hrl (by simp; omega)).trans HKX.out
        have zf : ∀ j, W4.frozen? ⟨r, j, none⟩ = false := fun j => by simp [World.frozen?, kz]
        have zf0 := zf 0
        have zf1 := zf 1
        have zf2 := zf 2
        have zf3 := zf 3
        have z0 : W4.cell? ⟨r, 0, none⟩ = some (.bool dec) := cell_of_row _ _ 0 _ _ (0, 0) kz
        have z1 : W4.cell? ⟨r, 1, none⟩ = some (.int .i64 t) := cell_of_row _ _ 1 _ _ (0, 0) kz
        have z2 : W4.cell? ⟨r, 2, none⟩ = some (.slice A1 n1 c1) := cell_of_row _ _ 2 _ _ (0, 0) kz
        have z3 : W4.cell? ⟨r, 3, none⟩ = some (.slice A2 n2 c2) := cell_of_row _ _ 3 _ _ (0, 0) kz
        have hr4 : r < W4.heap.size := cell_lt z0
        have K5 := Lib.hid (show ((((W4.setCell ⟨r, 0, none⟩ (.bool true)).setCell ⟨r, 1, none⟩ (.int .i64 t4)).setCell ⟨r, 2, none⟩ (.slice B1 n4 c4)).setCell ⟨r, 3, none⟩ (.slice B2 m4 c5)).heap[r]? = some (.cells #[.bool true, .int .i64 t4, .slice B1 n4 c4, .slice B2 m4 c5] 62 (0, 0)) by
          simp [World.setCell, Array.getElem?_modify, kz])
        have l5 : ∀ q, q ≠ r → ((((W4.setCell ⟨r, 0, none⟩ (.bool true)).setCell ⟨r, 1, none⟩ (.int .i64 t4)).setCell ⟨r, 2, none⟩ (.slice B1 n4 c4)).setCell ⟨r, 3, none⟩ (.slice B2 m4 c5)).heap[q]? = W4.heap[q]? := fun q hq =>
          (Below.heap_setCell _ _ _ _ (by simpa using hq)).trans ((Below.heap_setCell _ _ _ _ (by simpa using hq)).trans ((Below.heap_setCell _ _ _ _ (by simpa using hq)).trans (Below.heap_setCell _ _ _ _ (by simpa using hq))))
        have L5 := Lib.hid (fun q (hq : q < r) (hn : q ≠ sb) => (l5 q (by omega)).trans ((hg4.block q (by omega) (by simpa using hn)).trans (HLX.out q hq)))
        have HT5 := Lib.hid (TAt.both (Q := fun b => r + 1 ≤ b) (w' := (((W4.setCell ⟨r, 0, none⟩ (.bool true)).setCell ⟨r, 1, none⟩ (.int .i64 t4)).setCell ⟨r, 2, none⟩ (.slice B1 n4 c4)).setCell ⟨r, 3, none⟩ (.slice B2 m4 c5)) (fun q hq hP => l5 q (by have := HSX.out; omega)) (fun q _ hP => by have := HSX.out; omega) _ _ _ _ _ hT4.up)
        have HG5 := Lib.hid (gset (gset (gset (gset (grown_trans HGX.out hg4) (p := ⟨r, 0, none⟩) (by have := HG.out; show w.heap.size ≤ r; omega) (.bool true)) (p := ⟨r, 1, none⟩) (by have := HG.out; show w.heap.size ≤ r; omega) (.int .i64 t4)) (p := ⟨r, 2, none⟩) (by have := HG.out; show w.heap.size ≤ r; omega) (.slice B1 n4 c4)) (p := ⟨r, 3, none⟩) (by have := HG.out; show w.heap.size ≤ r; omega) (.slice B2 m4 c5))
        have HTP5 := Lib.hid (TapeOk.keepLow (w' := (((W4.setCell ⟨r, 0, none⟩ (.bool true)).setCell ⟨r, 1, none⟩ (.int .i64 t4)).setCell ⟨r, 2, none⟩ (.slice B1 n4 c4)).setCell ⟨r, 3, none⟩ (.slice B2 m4 c5)) hs4 (fun q hq => l5 q (by omega)))
        clear hT4 hF4 hs4 hg4 l5 kz zf HMT cg HKX HTX HGX HTPX HSX hz4 hr4
        go_upto_region 7 with fail
        generalize (((W4.setCell ⟨r, 0, none⟩ (.bool true)).setCell ⟨r, 1, none⟩ (.int .i64 t4)).setCell ⟨r, 2, none⟩ (.slice B1 n4 c4)).setCell ⟨r, 3, none⟩ (.slice B2 m4 c5) = W5 at *
        clear zf0 zf1 zf2 zf3 z0 z1 z2 z3 r0 r1 r2 r3
        go_wp2_with fail
        refine (TN_run _ sb _ (by omega) (by omega) HTP5.out).mono ?_
        rintro e W6 ⟨x, hx0, hx1, rfl, hs6, hg6⟩
        have hz6 := hg6.size
        have hr5 : r < W5.heap.size := cell_lt (cell_of_row _ _ 0 _ _ (0, 0) K5.out : W5.cell? ⟨r, 0, none⟩ = some (.bool true))
        have k6 : W6.heap[r]? = some (.cells #[.bool true, .int .i64 t4, .slice B1 n4 c4, .slice B2 m4 c5] 62 (0, 0)) := (hg6.block r hr5 (by simp; omega)).trans K5.out
        have KA := Lib.hid k6
        have LA := Lib.hid (fun q (hq : q < r) (hn : q ≠ sb) => (hg6.block q (by omega) (by simpa using hn)).trans (L5.out q hq hn))
        have HTA := Lib.hid (TAt.both (Q := fun b => r + 1 ≤ b) (w' := W6) (fun q hq hP => hg6.block q hq (by simp; omega)) (fun q _ hP => hP) _ _ _ _ _ HT5.out)
        have HGA := Lib.hid (grown_trans HG5.out hg6)
        have HTPA := Lib.hid hs6
        clear hs6 hg6 k6 K5 L5 HT5 HG5 HTP5 hz6 hr5
        by_cases hx : x = 0
        · subst hx
          have y0 : W6.cell? ⟨r, 0, none⟩ = some (.bool true) := cell_of_row _ _ 0 _ _ (0, 0) KA.out
          have y1 : W6.cell? ⟨r, 1, none⟩ = some (.int .i64 t4) := cell_of_row _ _ 1 _ _ (0, 0) KA.out
          have y2 : W6.cell? ⟨r, 2, none⟩ = some (.slice B1 n4 c4) := cell_of_row _ _ 2 _ _ (0, 0) KA.out
          have y3 : W6.cell? ⟨r, 3, none⟩ = some (.slice B2 m4 c5) := cell_of_row _ _ 3 _ _ (0, 0) KA.out
          have yf : ∀ j, W6.frozen? ⟨r, j, none⟩ = false := fun j => by simp [World.frozen?, KA.out]
          have yf1 := yf 1
          have yf2 := yf 2
          have yf3 := yf 3
          have hr6 : r < W6.heap.size := cell_lt y0
          have hba8 := balloc (bref (((W6.setCell ⟨r, 1, none⟩ (.int .i64 1)).setCell ⟨r, 2, none⟩ (.slice (some ⟨W6.heap.size, 0, none⟩) 1 1)).setCell ⟨r, 3, none⟩ (.slice none 0 0))) (.cells #[.int .i64 (k : Int)] 3)
          have hsz3 : (((W6.setCell ⟨r, 1, none⟩ (.int .i64 1)).setCell ⟨r, 2, none⟩ (.slice (some ⟨W6.heap.size, 0, none⟩) 1 1)).setCell ⟨r, 3, none⟩ (.slice none 0 0)).heap.size = W6.heap.size := by simp only [World.setCell, Array.size_modify]
          have l8 : ∀ q, q ≠ r → (((W6.setCell ⟨r, 1, none⟩ (.int .i64 1)).setCell ⟨r, 2, none⟩ (.slice (some ⟨W6.heap.size, 0, none⟩) 1 1)).setCell ⟨r, 3, none⟩ (.slice none 0 0)).heap[q]? = W6.heap[q]? := fun q hq =>
            (Below.heap_setCell _ _ _ _ (by simpa using hq)).trans ((Below.heap_setCell _ _ _ _ (by simpa using hq)).trans (Below.heap_setCell _ _ _ _ (by simpa using hq)))
          have K6 := Lib.hid (show ((((W6.setCell ⟨r, 1, none⟩ (.int .i64 1)).setCell ⟨r, 2, none⟩ (.slice (some ⟨W6.heap.size, 0, none⟩) 1 1)).setCell ⟨r, 3, none⟩ (.slice none 0 0)).alloc (.cells #[.int .i64 (k : Int)] 3)).heap[r]? = some (.cells #[.bool true, .int .i64 1, .slice (some ⟨W6.heap.size, 0, none⟩) 1 1, .slice none 0 0] 62 (0, 0)) by
            rw [hba8.block r (by rw [hsz3]; exact hr6)]
            simp [World.setCell, Array.getElem?_modify, KA.out])
          have L6 := Lib.hid (fun q (hq : q < r) (hn : q ≠ sb) => (hba8.block q (by rw [hsz3]; omega)).trans ((l8 q (by omega)).trans (LA.out q hq hn)))
          have kn : ((((W6.setCell ⟨r, 1, none⟩ (.int .i64 1)).setCell ⟨r, 2, none⟩ (.slice (some ⟨W6.heap.size, 0, none⟩) 1 1)).setCell ⟨r, 3, none⟩ (.slice none 0 0)).alloc (.cells #[.int .i64 (k : Int)] 3)).heap[W6.heap.size]? = some (.cells #[.int .i64 (k : Int)] 3 (0, 0)) := by
            have := heap_alloc_new (((W6.setCell ⟨r, 1, none⟩ (.int .i64 1)).setCell ⟨r, 2, none⟩ (.slice (some ⟨W6.heap.size, 0, none⟩) 1 1)).setCell ⟨r, 3, none⟩ (.slice none 0 0)) (.cells #[.int .i64 (k : Int)] 3)
            rwa [hsz3] at this
          have HT6 := Lib.hid (show TAt (fun b => ((P b ∧ b < g) ∨ g + 3 ≤ b) ∧ v.ownBlock ≠ some b) 2 ((((W6.setCell ⟨r, 1, none⟩ (.int .i64 1)).setCell ⟨r, 2, none⟩ (.slice (some ⟨W6.heap.size, 0, none⟩) 1 1)).setCell ⟨r, 3, none⟩ (.slice none 0 0)).alloc (.cells #[.int .i64 (k : Int)] 3)) (.int .i64 1) (.slice (some ⟨W6.heap.size, 0, none⟩) 1 1) (.slice none 0 0) (.mk 1 [(k : Int)] []) from by
            refine ⟨rfl, by simp, by simp, ⟨some ⟨W6.heap.size, 0, none⟩, 1, rfl, fun j hj => ⟨W6.heap.size, 0, rfl, ⟨.inr (by omega), fun e => by have := (HROX.out _ e).2; omega⟩, ?_⟩⟩, ⟨none, 0, rfl, fun k T hT => by simp at hT⟩⟩
            obtain rfl : j = 0 := by simpa using hj
            exact cell_of_row _ _ 0 #[.int .i64 (k : Int)] 3 (0, 0) kn)
          have HG6 := Lib.hid (grown_trans (gset (gset (gset HGA.out (p := ⟨r, 1, none⟩) (by have := HG.out; show w.heap.size ≤ r; omega) (.int .i64 1)) (p := ⟨r, 2, none⟩) (by have := HG.out; show w.heap.size ≤ r; omega) (.slice (some ⟨W6.heap.size, 0, none⟩) 1 1)) (p := ⟨r, 3, none⟩) (by have := HG.out; show w.heap.size ≤ r; omega) (.slice none 0 0)) (grown_below hba8))
          have HTP6 := Lib.hid (TapeOk.keepLow (w' := (((W6.setCell ⟨r, 1, none⟩ (.int .i64 1)).setCell ⟨r, 2, none⟩ (.slice (some ⟨W6.heap.size, 0, none⟩) 1 1)).setCell ⟨r, 3, none⟩ (.slice none 0 0)).alloc (.cells #[.int .i64 (k : Int)] 3)) HTPA.out (fun q hq => (hba8.block q (by rw [hsz3]; omega)).trans (l8 q (by omega))))
          have HAG6 := Lib.hid (agree_app (m := (true, .mk 1 [(k : Int)] [])) HXL.out hAg.out (fun h => by rw [hb] at h; cases h))
          clear hba8 hsz3 l8 kn yf KA LA HTA HGA HTPA
          go_upto_region 9 with fail
          generalize (((W6.setCell ⟨r, 1, none⟩ (.int .i64 1)).setCell ⟨r, 2, none⟩ (.slice (some ⟨W6.heap.size, 0, none⟩) 1 1)).setCell ⟨r, 3, none⟩ (.slice none 0 0)).alloc (.cells #[.int .i64 (k : Int)] 3) = W8 at *
          clear y0 y1 y2 y3 yf1 yf2 yf3
          obtain ⟨z, hz⟩ : ∃ z, W6.heap.size = z := ⟨_, rfl⟩
          rw [hz] at K6 HT6
          try rw [hz] at HG6
          try rw [hz]
          clear hz hr6
          have x0 : W8.cell? ⟨r, 0, none⟩ = some (.bool true) := cell_of_row _ _ 0 _ _ (0, 0) K6.out
          have x1 : W8.cell? ⟨r, 1, none⟩ = some (.int .i64 1) := cell_of_row _ _ 1 _ _ (0, 0) K6.out
          have x2 : W8.cell? ⟨r, 2, none⟩ = some (.slice (some ⟨z, 0, none⟩) 1 1) := cell_of_row _ _ 2 _ _ (0, 0) K6.out
          have x3 : W8.cell? ⟨r, 3, none⟩ = some (.slice none 0 0) := cell_of_row _ _ 3 _ _ (0, 0) K6.out
          have hcb6 : W8.heap[g + 2]? = some (.cells #[v] 27 (0, 0)) := (L6.out (g + 2) (by omega) (by omega)).trans HOW.out
          have q2 : W8.cell? ⟨g + 2, 0, none⟩ = some v := cell_of_row _ _ 0 _ _ (0, 0) hcb6
          have HCB6 := Lib.hid hcb6
          have hR6 := HRW.out.keep (W' := W8) (fun q hq hql => L6.out q (by rw [← HRQ.out]; exact hql) (qne HPS.out hsbl hq).1)
          obtain ⟨cs, hcs, hcl⟩ := hR6
          have hcn := hcs.1
          have HCSA := Lib.hid (hcs.alloc (.cells #[.bool true, .int .i64 1, .slice (some ⟨z, 0, none⟩) 1 1, .slice none 0 0] 62))
          have HNEW := Lib.hid (cell_four_new W8 (.bool true) (.int .i64 1) (.slice (some ⟨z, 0, none⟩) 1 1) (.slice none 0 0) 62)
          have HBA4 := Lib.hid (balloc (bref W8) (.cells #[.bool true, .int .i64 1, .slice (some ⟨z, 0, none⟩) 1 1, .slice none 0 0] 62))
          have HSZ4 := Lib.hid (alloc_sz W8 (.cells #[.bool true, .int .i64 1, .slice (some ⟨z, 0, none⟩) 1 1, .slice none 0 0] 62))
          have HCL := Lib.hid hcl
          have hz6 : r < W8.heap.size := cell_lt x0
          clear hcs hcl hcb6
          go_wp2_with (at_builtin; refine wpList_append_lies _ rfl _ _ 25 rfl (g + 3) 62 i4 (.agg #[.bool false, .int .i64 0, .slice none 0 0, .slice none 0 0]) 4 64 Try.underlying25 hi4 hy0 hy1 hy2 rfl (by decide) _ xs.length cs rfl (by exact HCSA.out) ⟨_, 0, none⟩ 1 1 [.bool true, .int .i64 1, .slice (some ⟨z, 0, none⟩) 1 1, .slice none 0 0] rfl rfl (by exact HNEW.out) (by intro u hu; simp at hu; rcases hu with rfl | rfl | rfl | rfl <;> rfl) (by omega) (by have := HXL.out; unfold maxLen; omega) (by have := HXL.out; omega) (by have := HSZ4.out; omega) _ rfl ?_; intro g4 cap4 W7 hown4 hgrow4 hat4 hlt4; have hcb5 : W7.heap[g + 2]? = some (.cells #[v] 27 (0, 0)) := (hgrow4.block (g + 2) (by have := HSZ4.out; omega) (fun e => by have := (HROX.out _ e.symm).1; omega)).trans ((HBA4.out.block (g + 2) (by omega)).trans HCB6.out); have s0 : W7.cell? ⟨g + 2, 0, none⟩ = some v := cell_of_row _ _ 0 _ _ (0, 0) hcb5; have sf : W7.frozen? ⟨g + 2, 0, none⟩ = false := by simp [World.frozen?, hcb5])
          have hgB : (W8.alloc (.cells #[.bool true, .int .i64 1, .slice (some ⟨z, 0, none⟩) 1 1, .slice none 0 0] 62)).grownBy W7 v.ownBlock := ⟨hgrow4.os, hgrow4.tape, hgrow4.output, hgrow4.size, hgrow4.block⟩
          have hrow5 := GRow.append (Q := (fun b => (P b ∧ b < g) ∨ g + 3 ≤ b)) (m := (true, .mk 1 [(k : Int)] [])) (WA := W8.alloc (.cells #[.bool true, .int .i64 1, .slice (some ⟨z, 0, none⟩) 1 1, .slice none 0 0] 62)) (fun k m hm => by
              obtain ⟨z0, z1, z2, e0, e1, e2, e3, e4⟩ := HCL.out k m hm
              exact ⟨z0, z1, z2, e0, e1, e2, e3, e4.below HBA4.out⟩) hcn (HT6.out.below HBA4.out) hown4 hgB hat4
          have HROW5 := Lib.hid (hrow5.keep (W' := W7.setCell ⟨g + 2, 0, none⟩ (.slice (some ⟨g4, 0, none⟩) (xs.length + 1) cap4)) (fun q hq _ => Below.heap_setCell _ _ _ _ (by have := (qne HPS.out hsbl hq).2.2.2; simp; omega)))
          have hset5 : (W7.setCell ⟨g + 2, 0, none⟩ (.slice (some ⟨g4, 0, none⟩) (xs.length + 1) cap4)).heap[g + 2]? = some (.cells #[.slice (some ⟨g4, 0, none⟩) (xs.length + 1) cap4] 27 (0, 0)) := by
            simp [World.setCell, Array.getElem?_modify, hcb5]
          have HSET5 := Lib.hid hset5
          have low7 : ∀ q, q < g + 3 → q ≠ g + 2 → (W7.setCell ⟨g + 2, 0, none⟩ (.slice (some ⟨g4, 0, none⟩) (xs.length + 1) cap4)).heap[q]? = W8.heap[q]? := fun q hq hn =>
            (Below.heap_setCell _ _ _ _ (by simpa using hn)).trans ((hgB.block q (by have := HSZ4.out; omega) (fun e => by have := (HROX.out _ e.symm).1; omega)).trans (HBA4.out.block q (by omega)))
          have HLO5 := Lib.hid (fun q (h1 : g ≤ q) (h2 : q < g + 2) => (low7 q (by omega) (by omega)).trans ((L6.out q (by omega) (by omega)).trans (HLO.out q h1 h2)))
          have HTP5 := Lib.hid (TapeOk.keepLow HTP6.out (fun q hq => low7 q (by omega) (by omega)))
          have HGR5 := Lib.hid (gset (gown (grown_trans HG6.out (grown_below HBA4.out)) hgB (fun q hq => by have := (HROX.out q hq).1; have := HG.out; omega)) (p := ⟨g + 2, 0, none⟩) (by have := HG.out; show w.heap.size ≤ g + 2; omega) (.slice (some ⟨g4, 0, none⟩) (xs.length + 1) cap4))
          have HLE5 := Lib.hid (show (xs ++ [((true, .mk 1 [(k : Int)] []) : Mem)]).length = k + 1 by have := HXL.out; simp; omega)
          clear hown4 hgrow4 hat4 hlt4 hcb5 s0 sf hgB hrow5 hset5 low7
          go_roundw
          case rel => exact ⟨k + 1, _, xs ++ [(true, .mk 1 [(k : Int)] [])], by omega, by go_num, HLE5.out, HROW5, HAG6, HSET5, HTP5, HLO5, HGR5⟩
          case measure => simp [intOf]; omega
        · have hx2 : (x == 0) = false := by simpa using hx
          have K6 := KA
          have L6 := LA
          have HT6 := Lib.hid (TAt.both (Q := fun b => ((P b ∧ b < g) ∨ g + 3 ≤ b) ∧ v.ownBlock ≠ some b) (w' := W6) (fun _ _ _ => rfl) (fun q _ hP => ⟨.inr (by omega), fun e => by have := (HROX.out q e).2; omega⟩) _ _ _ _ _ HTA.out)
          have HG6 := HGA
          have HTP6 := HTPA
          have HAG6 := Lib.hid (agree_app (m := (true, T4)) HXL.out hAg.out (fun h => by rw [hb] at h; cases h))
          clear KA LA HTA HGA HTPA
          go_upto_region 9 with fail
          have x0 : W6.cell? ⟨r, 0, none⟩ = some (.bool true) := cell_of_row _ _ 0 _ _ (0, 0) K6.out
          have x1 : W6.cell? ⟨r, 1, none⟩ = some (.int .i64 t4) := cell_of_row _ _ 1 _ _ (0, 0) K6.out
          have x2 : W6.cell? ⟨r, 2, none⟩ = some (.slice B1 n4 c4) := cell_of_row _ _ 2 _ _ (0, 0) K6.out
          have x3 : W6.cell? ⟨r, 3, none⟩ = some (.slice B2 m4 c5) := cell_of_row _ _ 3 _ _ (0, 0) K6.out
          have hcb6 : W6.heap[g + 2]? = some (.cells #[v] 27 (0, 0)) := (L6.out (g + 2) (by omega) (by omega)).trans HOW.out
          have q2 : W6.cell? ⟨g + 2, 0, none⟩ = some v := cell_of_row _ _ 0 _ _ (0, 0) hcb6
          have HCB6 := Lib.hid hcb6
          have hR6 := HRW.out.keep (W' := W6) (fun q hq hql => L6.out q (by rw [← HRQ.out]; exact hql) (qne HPS.out hsbl hq).1)
          obtain ⟨cs, hcs, hcl⟩ := hR6
          have hcn := hcs.1
          have HCSA := Lib.hid (hcs.alloc (.cells #[.bool true, .int .i64 t4, .slice B1 n4 c4, .slice B2 m4 c5] 62))
          have HNEW := Lib.hid (cell_four_new W6 (.bool true) (.int .i64 t4) (.slice B1 n4 c4) (.slice B2 m4 c5) 62)
          have HBA4 := Lib.hid (balloc (bref W6) (.cells #[.bool true, .int .i64 t4, .slice B1 n4 c4, .slice B2 m4 c5] 62))
          have HSZ4 := Lib.hid (alloc_sz W6 (.cells #[.bool true, .int .i64 t4, .slice B1 n4 c4, .slice B2 m4 c5] 62))
          have HCL := Lib.hid hcl
          have hz6 : r < W6.heap.size := cell_lt x0
          clear hcs hcl hcb6
          go_wp2_with (at_builtin; refine wpList_append_lies _ rfl _ _ 25 rfl (g + 3) 62 i4 (.agg #[.bool false, .int .i64 0, .slice none 0 0, .slice none 0 0]) 4 64 Try.underlying25 hi4 hy0 hy1 hy2 rfl (by decide) _ xs.length cs rfl (by exact HCSA.out) ⟨_, 0, none⟩ 1 1 [.bool true, .int .i64 t4, .slice B1 n4 c4, .slice B2 m4 c5] rfl rfl (by exact HNEW.out) (by intro u hu; simp at hu; rcases hu with rfl | rfl | rfl | rfl <;> rfl) (by omega) (by have := HXL.out; unfold maxLen; omega) (by have := HXL.out; omega) (by have := HSZ4.out; omega) _ rfl ?_; intro g4 cap4 W7 hown4 hgrow4 hat4 hlt4; have hcb5 : W7.heap[g + 2]? = some (.cells #[v] 27 (0, 0)) := (hgrow4.block (g + 2) (by have := HSZ4.out; omega) (fun e => by have := (HROX.out _ e.symm).1; omega)).trans ((HBA4.out.block (g + 2) (by omega)).trans HCB6.out); have s0 : W7.cell? ⟨g + 2, 0, none⟩ = some v := cell_of_row _ _ 0 _ _ (0, 0) hcb5; have sf : W7.frozen? ⟨g + 2, 0, none⟩ = false := by simp [World.frozen?, hcb5])
          have hgB : (W6.alloc (.cells #[.bool true, .int .i64 t4, .slice B1 n4 c4, .slice B2 m4 c5] 62)).grownBy W7 v.ownBlock := ⟨hgrow4.os, hgrow4.tape, hgrow4.output, hgrow4.size, hgrow4.block⟩
          have hrow5 := GRow.append (Q := (fun b => (P b ∧ b < g) ∨ g + 3 ≤ b)) (m := (true, T4)) (WA := W6.alloc (.cells #[.bool true, .int .i64 t4, .slice B1 n4 c4, .slice B2 m4 c5] 62)) (fun k m hm => by
              obtain ⟨z0, z1, z2, e0, e1, e2, e3, e4⟩ := HCL.out k m hm
              exact ⟨z0, z1, z2, e0, e1, e2, e3, e4.below HBA4.out⟩) hcn (HT6.out.below HBA4.out) hown4 hgB hat4
          have HROW5 := Lib.hid (hrow5.keep (W' := W7.setCell ⟨g + 2, 0, none⟩ (.slice (some ⟨g4, 0, none⟩) (xs.length + 1) cap4)) (fun q hq _ => Below.heap_setCell _ _ _ _ (by have := (qne HPS.out hsbl hq).2.2.2; simp; omega)))
          have hset5 : (W7.setCell ⟨g + 2, 0, none⟩ (.slice (some ⟨g4, 0, none⟩) (xs.length + 1) cap4)).heap[g + 2]? = some (.cells #[.slice (some ⟨g4, 0, none⟩) (xs.length + 1) cap4] 27 (0, 0)) := by
            simp [World.setCell, Array.getElem?_modify, hcb5]
          have HSET5 := Lib.hid hset5
          have low7 : ∀ q, q < g + 3 → q ≠ g + 2 → (W7.setCell ⟨g + 2, 0, none⟩ (.slice (some ⟨g4, 0, none⟩) (xs.length + 1) cap4)).heap[q]? = W6.heap[q]? := fun q hq hn =>
            (Below.heap_setCell _ _ _ _ (by simpa using hn)).trans ((hgB.block q (by have := HSZ4.out; omega) (fun e => by have := (HROX.out _ e.symm).1; omega)).trans (HBA4.out.block q (by omega)))
          have HLO5 := Lib.hid (fun q (h1 : g ≤ q) (h2 : q < g + 2) => (low7 q (by omega) (by omega)).trans ((L6.out q (by omega) (by omega)).trans (HLO.out q h1 h2)))
          have HTP5 := Lib.hid (TapeOk.keepLow HTP6.out (fun q hq => low7 q (by omega) (by omega)))
          have HGR5 := Lib.hid (gset (gown (grown_trans HG6.out (grown_below HBA4.out)) hgB (fun q hq => by have := (HROX.out q hq).1; have := HG.out; omega)) (p := ⟨g + 2, 0, none⟩) (by have := HG.out; show w.heap.size ≤ g + 2; omega) (.slice (some ⟨g4, 0, none⟩) (xs.length + 1) cap4))
          have HLE5 := Lib.hid (show (xs ++ [((true, T4) : Mem)]).length = k + 1 by have := HXL.out; simp; omega)
          clear hown4 hgrow4 hat4 hlt4 hcb5 s0 sf hgB hrow5 hset5 low7
          go_roundw
          case rel => exact ⟨k + 1, _, xs ++ [(true, T4)], by omega, by go_num, HLE5.out, HROW5, HAG6, HSET5, HTP5, HLO5, HGR5⟩
          case measure => simp [intOf]; omega
    · obtain rfl : k = ms.length := by omega
      have hvs : ∃ A c, v = .slice A xs.length c := (hRow.out.mems (P := fun _ => True) (fun _ _ => trivial)).slice
      obtain ⟨Av, cv, rfl⟩ := hvs
      generalize hnv : xs.length = nv at *
      have HNV := Lib.hid hnv
      clear hnv
      have c2 : wr.cell? ⟨g + 2, 0, none⟩ = some (.slice Av nv cv) := cell_of_row _ _ 0 _ _ (0, 0) hOut.out
      have hres : wr.heap[g + 1]? = some (.cells #[.slice none 0 0] 27 (0, 0)) := (HLO.out (g + 1) (by omega) (by omega)).trans K1.out
      have z0 : wr.cell? ⟨g + 1, 0, none⟩ = some (.slice none 0 0) := cell_of_row _ _ 0 _ _ (0, 0) hres
      have zf : wr.frozen? ⟨g + 1, 0, none⟩ = false := by simp [World.frozen?, hres]
      have hset : (wr.setCell ⟨g + 1, 0, none⟩ (.slice Av nv cv)).heap[g + 1]? = some (.cells #[.slice Av nv cv] 27 (0, 0)) := by
        simp [World.setCell, Array.getElem?_modify, hres]
      have q0 : (wr.setCell ⟨g + 1, 0, none⟩ (.slice Av nv cv)).cell? ⟨g + 1, 0, none⟩ = some (.slice Av nv cv) := cell_of_row _ _ 0 _ _ (0, 0) hset
      have hms : MemsAt (fun b => P b ∨ w.heap.size ≤ b) 2 (wr.setCell ⟨g + 1, 0, none⟩ (.slice Av nv cv)) (.slice Av nv cv) xs := (hRow.out.keep (fun q hq _ => Below.heap_setCell _ _ _ _ (by have := (qne HPS.out hsbl hq).2.1; simp; omega))).mems (fun b hb => hb.elim (fun h => h.elim (fun h => .inl h.1) (fun h => .inr (by have := HG.out; omega))) (fun h => .inr (by have := HG.out; omega)))
      have hgW : w.grownBy (wr.setCell ⟨g + 1, 0, none⟩ (.slice Av nv cv)) (some sb) := gset hGr.out (p := ⟨g + 1, 0, none⟩) (by have := HG.out; show w.heap.size ≤ g + 1; omega) _
      have htW : TapeOk (wr.setCell ⟨g + 1, 0, none⟩ (.slice Av nv cv)) sb := TapeOk.keepLow hTP.out (fun q hq => Below.heap_setCell _ _ _ _ (by simp; omega))
      have HF := Lib.hid (And.intro hms (And.intro hAg.out (And.intro htW hgW)))
      have HXE := Lib.hid (HNV.out.trans HXL.out)
      have Q0 := Lib.hid q0
      clear hset q0 hms hgW htW
      go_wp2_with fail
      have q0 := Q0.out
      refine bodyPost_ret (v := .agg #[.slice Av nv cv]) ?_ rfl ⟨_, xs, rfl, HXE.out, HF.out⟩
      simp [results, Try.results20, go_sem, q0]
end Go.Proofs.Ytbbdmaakphoofaa
