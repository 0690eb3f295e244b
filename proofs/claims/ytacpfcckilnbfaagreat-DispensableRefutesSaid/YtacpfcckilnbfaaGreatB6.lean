/- What the laws of this seat share: part 6. -/
import Derived.Test.YtacpfcckilnbfaaGreatB5

namespace Go.Proofs.YtacpfcckilnbfaaGreat
set_option linter.unusedVariables false
set_option linter.unusedSimpArgs false
open Go.RowKit

/-- The world of Pair: two boxes for the results, one for the configuration; nothing but the tape changes of what lay before. -/
structure PairW (w : World) (sb g cb B0 : Nat) (v : Value) (ms : List Mem) (W : World) : Prop where
  r0 : W.heap[g]? = some (.cells #[.slice none 0 0] 27 (0, 0))
  r1 : W.heap[g + 1]? = some (.cells #[.slice none 0 0] 27 (0, 0))
  box : W.heap[cb]? = some (.cells #[v] 27 (0, 0))
  mems : MemsAt (fun b => g + 2 ≤ b ∧ b < B0) 2 W v ms
  tape : TapeOk W sb
  gr : w.grownBy W (some sb)
theorem PairW.grow {w W W' : World} {sb g cb B0 : Nat} {v : Value} {ms : List Mem} (h : PairW w sb g cb B0 v ms W) (hsg : sb < g) (hcb : sb < cb) (hs : TapeOk W' sb) (hr : W.grownBy W' (some sb)) : PairW w sb g cb B0 v ms W' :=
  ⟨(hr.block _ (Array.getElem?_eq_some_iff.1 h.r0).1 (by simp; omega)).trans h.r0, (hr.block _ (Array.getElem?_eq_some_iff.1 h.r1).1 (by simp; omega)).trans h.r1, (hr.block _ (Array.getElem?_eq_some_iff.1 h.box).1 (by simp; omega)).trans h.box,
    h.mems.both (fun q hq hP => hr.block q hq (by simp; omega)) (fun _ _ h => h), hs, grown_trans h.gr hr⟩
theorem PairW.far {w W W' : World} {sb g cb B0 : Nat} {v : Value} {ms : List Mem} (h : PairW w sb g cb B0 v ms W) (hk : ∀ q, q < B0 → W'.heap[q]? = W.heap[q]?) (h1 : g + 1 < B0) (h2 : cb < B0) (h3 : sb < g) (hg : w.grownBy W' (some sb)) : PairW w sb g cb B0 v ms W' :=
  ⟨(hk _ (by omega)).trans h.r0, (hk _ (by omega)).trans h.r1, (hk _ h2).trans h.box, h.mems.both (fun q _ hP => hk q hP.2) (fun _ _ h => h), h.tape.keepLow (fun k hk2 => hk k (by omega)), hg⟩
theorem cell_one_new (w : World) (a : Value) (t : TypeId) : ∀ j u, [a][j]? = some u → (w.alloc (.cells #[a] t)).cell? ((⟨w.heap.size, 0, none⟩ : Addr).add j) = some u :=
  fun j u hu => World.news_of_block (heap_alloc_new w _) j u (by simpa using hu)
theorem infoLists : (Tryz.prog.info? 71).map (fun i => (i.zero, i.size, i.bytes)) = some (some (.slice none 0 0), 1, 24) := by kernel_rfl
theorem PairW.below {w W W' : World} {sb g cb B0 : Nat} {v : Value} {ms : List Mem} (h : PairW w sb g cb B0 v ms W) (hsg : sb < g) (hcb : sb < cb) (hb : Below W.heap.size W W') : PairW w sb g cb B0 v ms W' := h.grow hsg hcb (h.tape.below hb) (grown_below hb)

set_option maxRecDepth 100000 in
set_option maxHeartbeats 16000000 in
theorem mkPair_run (sb n : Nat) (hn : 1 ≤ n) (hn1 : n ≤ 10) (w : World) (hs : TapeOk w sb) :
    Calls Tryz.prog 13 #[.pointer (some ⟨sb, 0, none⟩), .int .i64 n] w fun e w' => ∃ (vl vh : Value) (ls hs : List Mem), e = .returned (.tuple #[.agg #[vl], .agg #[vh]]) ∧ PairM ls hs ∧ ls.length ≤ n ∧ MemsAt (fun b => w.heap.size ≤ b) 3 w' vl ls ∧ MemsAt (fun b => w.heap.size ≤ b) 3 w' vh hs ∧ TapeOk w' sb ∧ w.grownBy w' (some sb) := by
  have hsl := hs.lt
  have hb2 : Below w.heap.size w ((w.alloc (.cells #[.slice none 0 0] 27)).alloc (.cells #[.slice none 0 0] 27)) := balloc (balloc (bref w) _) _
  have HS1 := Lib.hid (show TapeOk ((w.alloc (.cells #[.slice none 0 0] 27)).alloc (.cells #[.slice none 0 0] 27)) sb from (hs.alloc _).alloc _)
  have K0 := Lib.hid (show ((w.alloc (.cells #[.slice none 0 0] 27)).alloc (.cells #[.slice none 0 0] 27)).heap[w.heap.size]? = some (.cells #[.slice none 0 0] 27 (0, 0)) from alloc_on (alloc_at rfl))
  have K1 := Lib.hid (show ((w.alloc (.cells #[.slice none 0 0] 27)).alloc (.cells #[.slice none 0 0] 27)).heap[w.heap.size + 1]? = some (.cells #[.slice none 0 0] 27 (0, 0)) from alloc_at (alloc_sz _ _))
  have HGR := Lib.hid (show w.grownBy ((w.alloc (.cells #[.slice none 0 0] 27)).alloc (.cells #[.slice none 0 0] 27)) (some sb) from grown_below hb2)
  have hsz : ((w.alloc (.cells #[.slice none 0 0] 27)).alloc (.cells #[.slice none 0 0] 27)).heap.size = w.heap.size + 2 := by rw [alloc_sz, alloc_sz]
  clear hs hb2
  go_enter Tryz.func13, Tryz.ntmps13
  go_upto_region 1 with fail
  generalize ((w.alloc (.cells #[.slice none 0 0] 27)).alloc (.cells #[.slice none 0 0] 27)) = W1 at *
  generalize hg : w.heap.size = g at *
  have HG := Lib.hid hg
  clear hg
  go_wp2_with fail
  refine (config_run sb n hn hn1 _ HS1.out).mono ?_
  rintro e W2 ⟨v, ms, rfl, hm1, hmn, hma, hmo, hs2, hg2⟩
  obtain ⟨Av, cv, rfl⟩ := hma.slice
  obtain ⟨m, hm⟩ : ∃ m, ms.length = m := ⟨_, rfl⟩
  have HML := Lib.hid hm
  have hz2 : g + 2 ≤ W2.heap.size := by have := hg2.size; omega
  have HP := Lib.hid (show PairW w sb g W2.heap.size (W2.heap.size + 1) (.slice Av m cv) ms (W2.alloc (.cells #[.slice Av m cv] 27)) from
    ⟨alloc_on ((hg2.block g (by omega) (by simp; omega)).trans K0.out), alloc_on ((hg2.block (g + 1) (by omega) (by simp; omega)).trans K1.out), alloc_at rfl,
      by
        rw [← hm]
        exact (hma.both (w' := W2) (Q := fun b => g + 2 ≤ b ∧ b < W2.heap.size + 1) (fun _ _ _ => rfl) (fun k hk hk2 => ⟨by omega, by omega⟩)).below (balloc (bref W2) _), hs2.alloc _, grown_trans (grown_trans HGR.out hg2) (grown_below (balloc (bref W2) _))⟩)
  have HMO := Lib.hid hmo
  rw [hm] at hm1 hmn ⊢
  clear hm hma hmo hs2 hg2 HS1 K0 K1 HGR
  go_upto_region 2 with fail
  have hzz : (W2.alloc (.cells #[.slice Av m cv] 27)).heap.size = W2.heap.size + 1 := alloc_sz _ _
  generalize (W2.alloc (.cells #[.slice Av m cv] 27)) = W3 at *
  generalize W2.heap.size = cb at *
  go_wp2_with fail
  refine (TN_run _ sb _ (by omega) (by omega) HP.out.tape).mono ?_
  rintro e W4 ⟨r, hr0, hr1, rfl, hs4, hg4⟩
  have HP4 := Lib.hid (HP.out.grow (by omega) (by omega) hs4 hg4)
  have hz34 := hg4.size
  clear hs4 hg4 HP
  have c0 : W4.cell? ⟨cb, 0, none⟩ = some (.slice Av m cv) := cell_of_row _ _ 0 _ _ (0, 0) HP4.out.box
  have hr2 : r = 0 ∨ r = 1 := by omega
  rcases hr2 with rfl | rfl
  · have z0 : W4.cell? ⟨g, 0, none⟩ = some (.slice none 0 0) := cell_of_row _ _ 0 _ _ (0, 0) HP4.out.r0
    have z1 : W4.cell? ⟨g + 1, 0, none⟩ = some (.slice none 0 0) := cell_of_row _ _ 0 _ _ (0, 0) HP4.out.r1
    have zf0 : W4.frozen? ⟨g, 0, none⟩ = false := by simp [World.frozen?, HP4.out.r0]
    have zf1 : W4.frozen? ⟨g + 1, 0, none⟩ = false := by simp [World.frozen?, HP4.out.r1]
    have er0 := HP4.out.r0
    have er1 := HP4.out.r1
    go_wp2_with fail
    go_region
    have HG8 := Lib.hid (show w.grownBy (((W4.setCell ⟨g, 0, none⟩ (.slice Av m cv)).setCell ⟨g + 1, 0, none⟩ (.slice Av m cv)).drew) (some sb) from grown_trans (gset (gset (HP4.out.gr) (p := ⟨g, 0, none⟩) (by show w.heap.size ≤ g; rw [HG.out]; exact Nat.le_refl _) _) (p := ⟨g + 1, 0, none⟩) (by show w.heap.size ≤ g + 1; rw [HG.out]; omega) _) (grown_below (bdrew (bref _))))
    have HH8 := Lib.hid (show ∀ q, q ≠ g → q ≠ g + 1 → (((W4.setCell ⟨g, 0, none⟩ (.slice Av m cv)).setCell ⟨g + 1, 0, none⟩ (.slice Av m cv)).drew).heap[q]? = W4.heap[q]? from fun q h1 h2 => (Below.heap_setCell _ _ _ q h2).trans (Below.heap_setCell _ _ _ q h1))
    have hs0 : (((W4.setCell ⟨g, 0, none⟩ (.slice Av m cv)).setCell ⟨g + 1, 0, none⟩ (.slice Av m cv)).drew).heap[g]? = some (.cells #[(.slice Av m cv)] 27 (0, 0)) := by
      have e1 : (W4.setCell ⟨g, 0, none⟩ (.slice Av m cv)).heap[g]? = some (.cells #[(.slice Av m cv)] 27 (0, 0)) := by simp [World.setCell, Array.getElem?_modify, er0]
      exact (Below.heap_setCell _ _ _ g (by show g ≠ g + 1; omega)).trans e1
    have hs1 : (((W4.setCell ⟨g, 0, none⟩ (.slice Av m cv)).setCell ⟨g + 1, 0, none⟩ (.slice Av m cv)).drew).heap[g + 1]? = some (.cells #[(.slice Av m cv)] 27 (0, 0)) := by
      have e1 : (W4.setCell ⟨g, 0, none⟩ (.slice Av m cv)).heap[g + 1]? = some (.cells #[.slice none 0 0] 27 (0, 0)) := (Below.heap_setCell _ _ _ (g + 1) (by show g + 1 ≠ g; omega)).trans er1
      show ((W4.setCell ⟨g, 0, none⟩ (.slice Av m cv)).setCell ⟨g + 1, 0, none⟩ (.slice Av m cv)).heap[g + 1]? = _
      simp [World.setCell, Array.getElem?_modify, er0, er1]
    have HTP8 := Lib.hid (show TapeOk (((W4.setCell ⟨g, 0, none⟩ (.slice Av m cv)).setCell ⟨g + 1, 0, none⟩ (.slice Av m cv)).drew) sb from (TapeOk.setCell (TapeOk.setCell (HP4.out.tape) (p := ⟨g, 0, none⟩) (by show sb < g; omega) _) (p := ⟨g + 1, 0, none⟩) (by show sb < g + 1; omega) _).drew)
    generalize (((W4.setCell ⟨g, 0, none⟩ (.slice Av m cv)).setCell ⟨g + 1, 0, none⟩ (.slice Av m cv)).drew) = W8 at *
    have y0 : W8.cell? ⟨g, 0, none⟩ = some ((.slice Av m cv)) := cell_of_row _ _ 0 _ _ (0, 0) hs0
    have y1 : W8.cell? ⟨g + 1, 0, none⟩ = some ((.slice Av m cv)) := cell_of_row _ _ 0 _ _ (0, 0) hs1
    have HY0 := Lib.hid y0
    have HY1 := Lib.hid y1
    clear hs0 hs1 y0 y1
    go_wp2_with fail
    have y0 := HY0.out
    have y1 := HY1.out
    have hML := HML.out
    refine bodyPost_ret (v := .tuple #[.agg #[.slice Av m cv], .agg #[.slice Av m cv]]) ?_ rfl ⟨_, _, ms, ms, rfl, PairM.same (by omega) (D3.ok_up HMO.out), by omega, ?_, ?_, HTP8.out, HG8.out⟩
    · simp [results, Tryz.results13, go_sem, y0, y1]
    all_goals
      have hG := HG.out
      refine (HP4.out.mems.both (w' := W8) (fun q hq hP => HH8.out q ?_ ?_) (fun q _ hP => by show w.heap.size ≤ q; omega)).up
      · have := hP.1; omega
      · have := hP.1; omega
  · obtain ⟨i1, hi1, hq0, hq1, hq2⟩ := info_parts infoLists
    obtain ⟨i3, hi3, hy0, hy1, hy2⟩ := info_parts infoTrust
    have HGW3 := Lib.hid HP4.out.gr
    have HZ3 := Lib.hid (show cb + 1 ≤ W4.heap.size from Nat.le_trans (by omega) hz34)
    go_wp2_with fail
    go_loopw [7, 27] (fun u t W => ∃ (k : Nat) (lv : Value) (tss : List (List Tree)), k ≤ m ∧ u = lv ∧ t = .int .i64 (k : Int) ∧ Hid (PairW w sb g cb (cb + 1) (.slice Av m cv) ms W) ∧ Hid (LRow (fun b => g + 2 ≤ b) W4.heap.size W lv tss) ∧ Hid (tss.length = k ∧ (∀ u ∈ tss, u.length ≤ 3) ∧ (∀ u ∈ tss, ∀ T ∈ u, WF m 2 T)) ∧ Hid (W4.grownBy W (some sb))) (fun _ t _ => m - (intOf t).toNat)
    case atStart => exact ⟨0, _, [], by omega, rfl, rfl, HP4, Lib.hid (LRow.nil _ _ _), Lib.hid ⟨rfl, fun _ h => absurd h (by simp), fun _ h => absurd h (by simp)⟩, Lib.hid (World.grownBy.refl _ _)⟩
    case round =>
      obtain ⟨k, lv, tss, hk, rfl, rfl, hPW, hRow, hTs, hGr⟩ := hrel
      have hzr : cb + 1 ≤ wr.heap.size := by have := hGr.out.size; have := HZ3.out; omega
      obtain ⟨wo, rfl⟩ : ∃ wo : World, wo = wr := ⟨_, rfl⟩
      by_cases hlt : k < m
      · obtain ⟨⟨dc, T⟩, hx⟩ : ∃ x, ms[k]? = some x := ⟨_, List.getElem?_eq_getElem (by rw [HML.out]; exact hlt)⟩
        obtain ⟨A', c', hA', hL⟩ := hPW.out.mems
        injection hA' with q1 q2 q3
        subst q1
        obtain ⟨b, off, y0, y1, y2, rfl, hPb, e0, e1, e2, e3, hT⟩ := hL k _ hx
        obtain ⟨t', A1, n1, c1, A2, n2, c2, rfl, rfl, rfl⟩ := hT.form
        have HWT := Lib.hid (show dc = true → WF m 2 T from by
          have h := (HMO.out _ (List.mem_of_getElem? hx)).1
          rw [HML.out] at h
          exact h)
        have hba := balloc (bref wo) (.cells #[.bool dc, .int .i64 t', .slice A1 n1 c1, .slice A2 n2 c2] 75)
        have HBX := Lib.hid (show (wo.alloc (.cells #[.bool dc, .int .i64 t', .slice A1 n1 c1, .slice A2 n2 c2] 75)).heap[wo.heap.size]? = some (.cells #[.bool dc, .int .i64 t', .slice A1 n1 c1, .slice A2 n2 c2] 75 (0, 0)) from alloc_at rfl)
        have HZX := Lib.hid (alloc_sz wo (.cells #[.bool dc, .int .i64 t', .slice A1 n1 c1, .slice A2 n2 c2] 75))
        have HTX := Lib.hid (hT.below hba)
        have HPX := Lib.hid (hPW.out.below (by omega) (by omega) hba)
        have HRX := Lib.hid (hRow.out.keep (W' := wo.alloc (.cells #[.bool dc, .int .i64 t', .slice A1 n1 c1, .slice A2 n2 c2] 75)) (fun q _ hq => hba.block q hq))
        have HGX := Lib.hid (grown_trans hGr.out (grown_below hba))
        have HOX := Lib.hid (hRow.out.own)
        clear hL hT hx hba hPW hRow hGr q2 q3
        go_upto_region 9 with fail
        generalize (wo.alloc (.cells #[.bool dc, .int .i64 t', .slice A1 n1 c1, .slice A2 n2 c2] 75)) = WX at *
        generalize hX : wo.heap.size = X at *
        have HX := Lib.hid hX
        clear e0 e1 e2 e3 hX
        have b0 : WX.cell? ⟨X, 0, none⟩ = some (.bool dc) := cell_of_row _ _ 0 _ _ (0, 0) HBX.out
        cases dc
        · obtain ⟨W6, rfl⟩ : ∃ W6 : World, W6 = WX := ⟨_, rfl⟩
          have HP6 := HPX
          have HR6 := HRX
          have HG6 := HGX
          have HL6 := Lib.hid (show ListT (fun b => g + 2 ≤ b ∧ u7.ownBlock ≠ some b) 2 W6 (.slice none 0 0) [] from ⟨none, 0, rfl, fun k T h => by simp at h⟩)
          have HT3 := Lib.hid (show ([] : List Tree).length ≤ 3 ∧ ∀ T ∈ ([] : List Tree), WF m 2 T from ⟨by simp, fun T h => absurd h (by simp)⟩)
          obtain ⟨us, hus, hul⟩ := HR6.out
          have hcn : us.length = tss.length := by have := hus.1; omega
          have HCSA := Lib.hid (hus.alloc (.cells #[.slice none 0 0] 71))
          have HNEW := Lib.hid (cell_one_new W6 (.slice none 0 0) 71)
          have HBA := Lib.hid (balloc (bref W6) (.cells #[.slice none 0 0] 71))
          have HSZ := Lib.hid (alloc_sz W6 (.cells #[.slice none 0 0] 71))
          have HUL := Lib.hid hul
          have HTL := Lib.hid hTs.out.1
          have hsz6 : cb + 1 ≤ W6.heap.size := by have := HG6.out.size; have := HZ3.out; omega
          have hsz7 := HG6.out.size
          have hz3x := HZ3.out
          obtain ⟨nl, hnl⟩ : ∃ nl, tss.length = nl := ⟨_, rfl⟩
          rw [hnl] at HCSA hcn
          have HNL := Lib.hid hnl
          clear hus hul hnl
          go_wp2_with (at_builtin; refine wpList_append_lies _ rfl _ _ 70 rfl W4.heap.size 71 i1 (.slice none 0 0) 1 24 Tryz.underlying70 hi1 hq0 hq1 hq2 rfl (by decide) _ nl us rfl (by exact HCSA.out) ⟨_, 0, none⟩ 1 1 [.slice none 0 0] rfl rfl (by exact HNEW.out) (by intro u hu; simp at hu; subst hu; rfl) (by omega) (by have := HTL.out; have := HNL.out; unfold maxLen; omega) (by have := HTL.out; have := HNL.out; omega) (by have := HSZ.out; omega) _ rfl ?_; intro g4 cap4 W7 hown4 hgrow4 hat4 hlt4)
          have hgB : (W6.alloc (.cells #[.slice none 0 0] 71)).grownBy W7 u7.ownBlock := ⟨hgrow4.os, hgrow4.tape, hgrow4.output, hgrow4.size, hgrow4.block⟩
          have hLW := HNL.out
          subst hLW
          have hrow5 := LRow.append (Q := fun b => g + 2 ≤ b) (ts := []) (WA := W6.alloc (.cells #[.slice none 0 0] 71)) (fun k u S e1 e2 => (HUL.out k u S e1 e2).below HBA.out) hcn (HL6.out.below HBA.out) hown4 hgB hat4
          have HROW5 := Lib.hid hrow5
          have HG7 := Lib.hid (gown (grown_trans HG6.out (grown_below HBA.out)) hgB (fun q hq => by have := (HR6.out.own q hq).1; have := HZ3.out; omega))
          have HP7 := Lib.hid ((HP6.out.below (by omega) (by omega) HBA.out).far (W' := W7) (fun q hq => hgB.block q (by have := HSZ.out; omega) (fun e => by have := (HR6.out.own q e.symm).1; omega)) (by omega) (by omega) (by omega) (grown_trans HGW3.out HG7.out))
          have HTS7 := Lib.hid (show (tss ++ [[]]).length = k + 1 ∧ (∀ u ∈ tss ++ [[]], u.length ≤ 3) ∧ (∀ u ∈ tss ++ [[]], ∀ T ∈ u, WF m 2 T) from by
            refine ⟨by rw [List.length_append, hTs.out.1]; rfl, fun u hu => ?_, fun u hu => ?_⟩
            · rcases List.mem_append.1 hu with h | h
              · exact hTs.out.2.1 u h
              · rw [List.mem_singleton.1 h]; exact HT3.out.1
            · rcases List.mem_append.1 hu with h | h
              · exact hTs.out.2.2 u h
              · rw [List.mem_singleton.1 h]; exact HT3.out.2)
          clear hown4 hgrow4 hat4 hlt4 hgB hrow5
          go_roundw
          case rel => exact ⟨k + 1, _, _, by omega, rfl, by go_num, HP7, HROW5, HTS7, HG7⟩
          case measure => simp [intOf]; omega
        · have b1 : WX.cell? ⟨X, 1, none⟩ = some (.int .i64 t') := cell_of_row _ _ 1 _ _ (0, 0) HBX.out
          have b2 : WX.cell? ⟨X, 2, none⟩ = some (.slice A1 n1 c1) := cell_of_row _ _ 2 _ _ (0, 0) HBX.out
          have b3 : WX.cell? ⟨X, 3, none⟩ = some (.slice A2 n2 c2) := cell_of_row _ _ 3 _ _ (0, 0) HBX.out
          have HNEW0 := Lib.hid (cell_three_new WX (.int .i64 t') (.slice A1 n1 c1) (.slice A2 n2 c2) 73)
          have HBA0 := Lib.hid (balloc (bref WX) (.cells #[.int .i64 t', .slice A1 n1 c1, .slice A2 n2 c2] 73))
          have HSZ0 := Lib.hid (alloc_sz WX (.cells #[.int .i64 t', .slice A1 n1 c1, .slice A2 n2 c2] 73))
          have hzx := HZX.out
          go_upto_region 11 with (go_loud (at_builtin; refine wpList_append_lies _ rfl _ _ 71 rfl (X + 1) 73 i3 (.agg #[.int .i64 0, .slice none 0 0, .slice none 0 0]) 3 56 Tryz.underlying71 hi3 hy0 hy1 hy2 rfl (by decide) _ 0 [] rfl (World.ownsRow_nil _ _ _ _) ⟨_, 0, none⟩ 1 1 [.int .i64 t', .slice A1 n1 c1, .slice A2 n2 c2] rfl rfl (by have h := HNEW0.out; rw [HZX.out] at h; exact h) (by intro u hu; simp at hu; rcases hu with rfl | rfl | rfl <;> rfl) (by omega) (by unfold maxLen; omega) (by omega) (by have := HSZ0.out; omega) _ rfl ?_; intro g4 cap4 W5 hown4 hgrow4 hat4 hlt4))
          have hgB : (WX.alloc (.cells #[.int .i64 t', .slice A1 n1 c1, .slice A2 n2 c2] 73)).grownBy W5 (Value.slice none 0 0).ownBlock := ⟨hgrow4.os, hgrow4.tape, hgrow4.output, hgrow4.size, hgrow4.block⟩
          have HGT5 := Lib.hid (GT.append (Q := fun b => (g + 2 ≤ b ∧ b < cb + 1) ∨ X ≤ b) (B := X + 1) (d := 2) (ts := []) (T := T) (WA := WX.alloc (.cells #[.int .i64 t', .slice A1 n1 c1, .slice A2 n2 c2] 73)) (lv := .slice none 0 0) (cs := []) (fun k T h => by simp at h) rfl ((HTX.out.below HBA0.out).imp (fun q _ hq => ⟨.inl hq, by simp [Value.ownBlock]⟩)) hown4 hgB hat4)
          have HGX5 := Lib.hid (show WX.grownBy W5 (some sb) from gown (grown_below HBA0.out) hgB (fun q hq => by simp [Value.ownBlock] at hq))
          have HT5 := Lib.hid (show TapeOk W5 sb from HPX.out.tape.keepLow (fun q hq => (hgB.block q (by have := HSZ0.out; omega) (by simp [Value.ownBlock])).trans (HBA0.out.block q (by omega))))
          clear hown4 hgrow4 hat4 hlt4 hgB b0 b1 b2 b3 HNEW0 HSZ0 HBA0
          go_wp2_with fail
          refine (TN_run _ sb _ (by omega) (by omega) HT5.out).mono ?_
          rintro e W6 ⟨r, hr2, hr3, rfl, hs6, hg6⟩
          have HGX6 := Lib.hid (grown_trans HGX5.out hg6)
          have HT6 := Lib.hid hs6
          have HGT6 := Lib.hid (HGT5.out.keep (W' := W6) (fun q hq hl => hg6.block q hl (by simp only [ne_eq, Option.some.injEq]; rcases hq with (hq | hq) | hq <;> omega)))
          obtain ⟨i0, rfl⟩ : ∃ i0 : Nat, r = (i0 : Int) := ⟨r.toNat, by omega⟩
          have HWF0 := Lib.hid (show ∀ U ∈ ([] ++ [T] : List Tree), WF m 2 U from fun U hU => by rw [List.mem_singleton.1 hU]; first | exact HWT.out rfl | exact HWT.out trivial)
          clear hs6 hg6 HT5 HGX5 HGT5
          go_wp2_with fail
          go_loopw [10, 11] (fun u t W => ∃ (i : Nat) (xv : Value) (ts : List Tree), u = xv ∧ t = .int .i64 (i : Int) ∧ Hid (ts.length + i ≤ 3) ∧ Hid (GT (fun b => (g + 2 ≤ b ∧ b < cb + 1) ∨ X ≤ b) (X + 1) 2 W xv ts) ∧ Hid (∀ U ∈ ts, WF m 2 U) ∧ Hid (TapeOk W sb) ∧ Hid (WX.grownBy W (some sb))) (fun _ t _ => (intOf t).toNat)
          case atStart => exact ⟨i0, _, [] ++ [T], rfl, rfl, Lib.hid (by simp; omega), HGT6, HWF0, HT6, HGX6⟩
          case round =>
            obtain ⟨i, xv, ts, hxv, rfl, hcnt, hGT, hwf, hTp, hGx⟩ := hrel
            subst hxv
            have hzw : X + 1 ≤ wr.heap.size := by have := hGx.out.size; have := HZX.out; omega
            have hbx := (hGx.out.block X (by have := HZX.out; omega) (by simp; omega)).trans HBX.out
            have hpr := HPX.out.grow (by omega) (by omega) hTp.out hGx.out
            have c0 : wr.cell? ⟨cb, 0, none⟩ = some (.slice (some ⟨b, off, none⟩) m cv) := cell_of_row _ _ 0 _ _ (0, 0) hpr.box
            have HPR := Lib.hid hpr
            have HTR := Lib.hid (HTX.out.keep (w' := wr) (fun q hq hP => hGx.out.block q hq (by have := hP.1; simp; omega)))
            have HOW := Lib.hid (hGT.out.own)
            by_cases hi0 : 0 < i
            · have b1 : wr.cell? ⟨X, 1, none⟩ = some (.int .i64 t') := cell_of_row _ _ 1 _ _ (0, 0) hbx
              have b2 : wr.cell? ⟨X, 2, none⟩ = some (.slice A1 n1 c1) := cell_of_row _ _ 2 _ _ (0, 0) hbx
              have b3 : wr.cell? ⟨X, 3, none⟩ = some (.slice A2 n2 c2) := cell_of_row _ _ 3 _ _ (0, 0) hbx
              clear hbx hpr
              obtain ⟨wp, rfl⟩ : ∃ wp : World, wp = wr := ⟨_, rfl⟩
              go_wp2_with fail
              refine (near_run (fun q => g + 2 ≤ q ∧ q < cb + 1) sb m hm1 (by omega) T _ _ _ wp hTp.out (by rintro q ⟨h1, h2⟩; omega) HTR.out (by first | exact HWT.out rfl | exact HWT.out trivial)).mono ?_
              rintro e Wn ⟨z0, z1, z2, U, rfl, hU, hWU, hTn, hGn⟩
              obtain ⟨t2, B1, k1, d1, B2, k2, d2, rfl, rfl, rfl⟩ := hU.form
              have hzn := hGn.size
              have hGTn := hGT.out.keep (W' := Wn) (fun q hq hl => hGn.block q hl (by simp only [ne_eq, Option.some.injEq]; rcases hq with (hq | hq) | hq <;> omega))
              obtain ⟨cs, hcs, hcl⟩ := hGTn
              have hcn : cs.length = ts.length * 3 := by have := hcs.1; omega
              obtain ⟨nt, hnt⟩ : ∃ nt, ts.length = nt := ⟨_, rfl⟩
              have HCSA := Lib.hid (hcs.alloc (.cells #[.int .i64 t2, .slice B1 k1 d1, .slice B2 k2 d2] 73))
              rw [hnt] at HCSA
              have HNT := Lib.hid hnt
              have HNEW := Lib.hid (cell_three_new Wn (.int .i64 t2) (.slice B1 k1 d1) (.slice B2 k2 d2) 73)
              have HBA := Lib.hid (balloc (bref Wn) (.cells #[.int .i64 t2, .slice B1 k1 d1, .slice B2 k2 d2] 73))
              have HSZ := Lib.hid (alloc_sz Wn (.cells #[.int .i64 t2, .slice B1 k1 d1, .slice B2 k2 d2] 73))
              have HCL := Lib.hid hcl
              have HGN := Lib.hid (grown_trans hGx.out hGn)
              have HUU := Lib.hid (show TAt (fun q => ((g + 2 ≤ q ∧ q < cb + 1) ∨ X ≤ q) ∧ u10.ownBlock ≠ some q) 2 Wn (.int .i64 t2) (.slice B1 k1 d1) (.slice B2 k2 d2) U from
                hU.imp (fun q _ hq => by
                  rcases hq with hq | hq
                  · exact ⟨.inl hq, fun e => by have := (HOW.out q e).1; omega⟩
                  · exact ⟨.inr (by omega), fun e => by have := (HOW.out q e).2; omega⟩))
              have HWF1 := Lib.hid (show ∀ V ∈ ts ++ [U], WF m 2 V from fun V hV => by
                rcases List.mem_append.1 hV with h | h
                · exact hwf.out V h
                · rw [List.mem_singleton.1 h]; exact hWU)
              have HTN := Lib.hid hTn
              have hcx := hcnt.out
              rw [hnt] at hcx
              clear hcs hcl hU hTn hGn hnt b1 b2 b3 c0
              go_wp2_with (at_builtin; refine wpList_append_lies _ rfl _ _ 71 rfl (X + 1) 73 i3 (.agg #[.int .i64 0, .slice none 0 0, .slice none 0 0]) 3 56 Tryz.underlying71 hi3 hy0 hy1 hy2 rfl (by decide) _ nt cs rfl (by exact HCSA.out) ⟨_, 0, none⟩ 1 1 [.int .i64 t2, .slice B1 k1 d1, .slice B2 k2 d2] rfl rfl (by exact HNEW.out) (by intro u hu; simp at hu; rcases hu with rfl | rfl | rfl <;> rfl) (by omega) (by unfold maxLen; omega) (by omega) (by have := HSZ.out; omega) _ rfl ?_; intro g4 cap4 W5 hown4 hgrow4 hat4 hlt4)
              have hgB : (Wn.alloc (.cells #[.int .i64 t2, .slice B1 k1 d1, .slice B2 k2 d2] 73)).grownBy W5 u10.ownBlock := ⟨hgrow4.os, hgrow4.tape, hgrow4.output, hgrow4.size, hgrow4.block⟩
              have hNT := HNT.out
              subst hNT
              have HGT5 := Lib.hid (GT.append (Q := fun q => (g + 2 ≤ q ∧ q < cb + 1) ∨ X ≤ q) (B := X + 1) (d := 2) (ts := ts) (T := U) (WA := Wn.alloc (.cells #[.int .i64 t2, .slice B1 k1 d1, .slice B2 k2 d2] 73)) (fun k T h => by
                obtain ⟨x0, x1, x2, f0, f1, f2, f3⟩ := HCL.out k T h
                exact ⟨x0, x1, x2, f0, f1, f2, f3.below HBA.out⟩) hcn (HUU.out.below HBA.out) hown4 hgB hat4)
              have HGX5 := Lib.hid (show WX.grownBy W5 (some sb) from gown (grown_trans HGN.out (grown_below HBA.out)) hgB (fun q hq => by have := (HOW.out q hq).1; have := HZX.out; omega))
              have HT5 := Lib.hid (show TapeOk W5 sb from HTN.out.keepLow (fun q hq => (hgB.block q (by have := HSZ.out; omega) (fun e => by have := (HOW.out q e.symm).1; omega)).trans (HBA.out.block q (by omega))))
              have HC5 := Lib.hid (show (ts ++ [U]).length + (i - 1) ≤ 3 from by rw [List.length_append]; simp; omega)
              clear hown4 hgrow4 hat4 hlt4 hgB
              go_wp2_with fail
              go_roundw
              case rel => exact ⟨i - 1, _, ts ++ [U], rfl, by go_num, HC5, HGT5, HWF1, HT5, HGX5⟩
              case measure => simp [intOf]; omega
            · obtain rfl : i = 0 := by omega
              obtain ⟨W6, rfl⟩ : ∃ W6 : World, W6 = wr := ⟨_, rfl⟩
              have HP6 := HPR
              have HG6 := Lib.hid (grown_trans HGX.out hGx.out)
              have HR6 := Lib.hid (HRX.out.keep (W' := W6) (fun q hq hl => hGx.out.block q hl (by simp only [ne_eq, Option.some.injEq]; rcases hq with hq | hq <;> omega)))
              have HL6 := Lib.hid (show ListT (fun b => g + 2 ≤ b ∧ u7.ownBlock ≠ some b) 2 W6 u10 ts from hGT.out.list (fun q hq => by
                rcases hq with (hq | hq) | hq
                · exact ⟨by omega, fun e => by have := (HOX.out q e).1; have := HZ3.out; omega⟩
                · exact ⟨by omega, fun e => by have := (HOX.out q e).2; omega⟩
                · exact ⟨by omega, fun e => by have := (HOX.out q e).2; omega⟩))
              have HT3 := Lib.hid (show ts.length ≤ 3 ∧ ∀ T ∈ ts, WF m 2 T from ⟨by have := hcnt.out; omega, hwf.out⟩)
              clear hGT hbx hpr c0
              obtain ⟨us, hus, hul⟩ := HR6.out
              have hcn : us.length = tss.length := by have := hus.1; omega
              obtain ⟨Ax, cx, rfl⟩ := HL6.out.slice
              obtain ⟨nt, hnt⟩ : ∃ nt, ts.length = nt := ⟨_, rfl⟩
              rw [hnt] at HL6 ⊢
              have HNT := Lib.hid hnt
              clear hnt
              have HCSA := Lib.hid (hus.alloc (.cells #[.slice Ax nt cx] 71))
              have HNEW := Lib.hid (cell_one_new W6 (.slice Ax nt cx) 71)
              have HBA := Lib.hid (balloc (bref W6) (.cells #[.slice Ax nt cx] 71))
              have HSZ := Lib.hid (alloc_sz W6 (.cells #[.slice Ax nt cx] 71))
              have HUL := Lib.hid hul
              have HTL := Lib.hid hTs.out.1
              have hsz6 : cb + 1 ≤ W6.heap.size := by have := HG6.out.size; have := HZ3.out; omega
              have hsz7 := HG6.out.size
              have hz3x := HZ3.out
              obtain ⟨nl, hnl⟩ : ∃ nl, tss.length = nl := ⟨_, rfl⟩
              rw [hnl] at HCSA hcn
              have HNL := Lib.hid hnl
              clear hus hul hnl
              go_wp2_with (at_builtin; refine wpList_append_lies _ rfl _ _ 70 rfl W4.heap.size 71 i1 (.slice none 0 0) 1 24 Tryz.underlying70 hi1 hq0 hq1 hq2 rfl (by decide) _ nl us rfl (by exact HCSA.out) ⟨_, 0, none⟩ 1 1 [.slice Ax nt cx] rfl rfl (by exact HNEW.out) (by intro u hu; simp at hu; subst hu; rfl) (by omega) (by have := HTL.out; have := HNL.out; unfold maxLen; omega) (by have := HTL.out; have := HNL.out; omega) (by have := HSZ.out; omega) _ rfl ?_; intro g4 cap4 W7 hown4 hgrow4 hat4 hlt4)
              have hgB : (W6.alloc (.cells #[.slice Ax nt cx] 71)).grownBy W7 u7.ownBlock := ⟨hgrow4.os, hgrow4.tape, hgrow4.output, hgrow4.size, hgrow4.block⟩
              have hLW := HNL.out
              subst hLW
              have hNT := HNT.out
              subst hNT
              have hrow5 := LRow.append (Q := fun b => g + 2 ≤ b) (ts := ts) (WA := W6.alloc (.cells #[.slice Ax ts.length cx] 71)) (fun k u S e1 e2 => (HUL.out k u S e1 e2).below HBA.out) hcn (HL6.out.below HBA.out) hown4 hgB hat4
              have HROW5 := Lib.hid hrow5
              have HG7 := Lib.hid (gown (grown_trans HG6.out (grown_below HBA.out)) hgB (fun q hq => by have := (HR6.out.own q hq).1; have := HZ3.out; omega))
              have HP7 := Lib.hid ((HP6.out.below (by omega) (by omega) HBA.out).far (W' := W7) (fun q hq => hgB.block q (by have := HSZ.out; omega) (fun e => by have := (HR6.out.own q e.symm).1; omega)) (by omega) (by omega) (by omega) (grown_trans HGW3.out HG7.out))
              have HTS7 := Lib.hid (show (tss ++ [ts]).length = k + 1 ∧ (∀ u ∈ tss ++ [ts], u.length ≤ 3) ∧ (∀ u ∈ tss ++ [ts], ∀ T ∈ u, WF m 2 T) from by
                refine ⟨by rw [List.length_append, hTs.out.1]; rfl, fun u hu => ?_, fun u hu => ?_⟩
                · rcases List.mem_append.1 hu with h | h
                  · exact hTs.out.2.1 u h
                  · rw [List.mem_singleton.1 h]; exact HT3.out.1
                · rcases List.mem_append.1 hu with h | h
                  · exact hTs.out.2.2 u h
                  · rw [List.mem_singleton.1 h]; exact HT3.out.2)
              clear hown4 hgrow4 hat4 hlt4 hgB hrow5
              go_roundw
              case rel => exact ⟨k + 1, _, _, by omega, rfl, by go_num, HP7, HROW5, HTS7, HG7⟩
              case measure => simp [intOf]; omega
      · have hkm : m = k := by omega
        subst hkm
        have HLL := Lib.hid (hRow.out.list (P := fun b => g + 2 ≤ b) (fun b h => by
          rcases h with h | h
          · exact h
          · have := HZ3.out; show g + 2 ≤ b; omega))
        have HPW := hPW
        have HGR := hGr
        clear hPW hRow hGr c0
        have hg0 : g + 2 ≤ wo.heap.size := by omega
        go_wp2_with fail
        refine (low_run (fun b => g + 2 ≤ b) tss m _ wo hTs.out.1 (by omega) hTs.out.2.1 hTs.out.2.2 HLL.out).mono ?_
        rintro e Wl ⟨vl, ls, rfl, hml, hjl, hbl⟩
        obtain ⟨Al, cl, rfl⟩ := hml.slice
        rw [hjl.1]
        have hml2 := hml
        rw [hjl.1] at hml2
        have hzl := hbl.size
        have hba := balloc (bref Wl) (.cells #[.slice Al m cl] 27)
        have HJL := Lib.hid hjl
        have HBL := Lib.hid (bstep hbl hba)
        have HKL := Lib.hid (show (Wl.alloc (.cells #[.slice Al m cl] 27)).heap[Wl.heap.size]? = some (.cells #[.slice Al m cl] 27 (0, 0)) from alloc_at rfl)
        have HML2 := Lib.hid ((hml2.both (w' := Wl) (Q := fun b => g + 2 ≤ b) (fun _ _ _ => rfl) (fun q _ hq => by rcases hq with hq | hq <;> omega)).below hba)
        have HZL := Lib.hid (alloc_sz Wl (.cells #[.slice Al m cl] 27))
        clear hml hml2 hjl hbl hba
        go_upto_region 18 with fail
        generalize (Wl.alloc (.cells #[.slice Al m cl] 27)) = WL at *
        generalize Wl.heap.size = lb at *
        go_wp2_with fail
        refine (high_run (fun b => g + 2 ≤ b) tss m _ WL hTs.out.1 (by omega) hTs.out.2.1 hTs.out.2.2 (HLL.out.keep (fun q hq _ => HBL.out.block q hq))).mono ?_
        rintro e Wh ⟨vh, hs2, rfl, hmh, hjh, hbh⟩
        obtain ⟨Ah, ch, rfl⟩ := hmh.slice
        rw [hjh.1]
        have hmh2 := hmh
        rw [hjh.1] at hmh2
        have hzh := hbh.size
        have hba := balloc (bref Wh) (.cells #[.slice Ah m ch] 27)
        have HJH := Lib.hid hjh
        have HBH := Lib.hid (bstep hbh hba)
        have HKH := Lib.hid (show (Wh.alloc (.cells #[.slice Ah m ch] 27)).heap[Wh.heap.size]? = some (.cells #[.slice Ah m ch] 27 (0, 0)) from alloc_at rfl)
        have HMH2 := Lib.hid ((hmh2.both (w' := Wh) (Q := fun b => g + 2 ≤ b) (fun _ _ _ => rfl) (fun q _ hq => by have := HZL.out; rcases hq with hq | hq <;> omega)).below hba)
        clear hmh hmh2 hjh hbh hba
        go_upto_region 19 with fail
        generalize (Wh.alloc (.cells #[.slice Ah m ch] 27)) = WH at *
        have hp8 := HPW.out.grow (by omega) (by omega) (HPW.out.tape.below (bstep HBL.out HBH.out)) (grown_below (bstep HBL.out HBH.out))
        have er0 := hp8.r0
        have er1 := hp8.r1
        have d0 : WH.cell? ⟨lb, 0, none⟩ = some (.slice Al m cl) := cell_of_row _ _ 0 _ _ (0, 0) ((HBH.out.block lb (by have := HZL.out; omega)).trans HKL.out)
        have d1 : WH.cell? ⟨Wh.heap.size, 0, none⟩ = some (.slice Ah m ch) := cell_of_row _ _ 0 _ _ (0, 0) HKH.out
        have z0 : WH.cell? ⟨g, 0, none⟩ = some (.slice none 0 0) := cell_of_row _ _ 0 _ _ (0, 0) er0
        have z1 : WH.cell? ⟨g + 1, 0, none⟩ = some (.slice none 0 0) := cell_of_row _ _ 0 _ _ (0, 0) er1
        have zf0 : WH.frozen? ⟨g, 0, none⟩ = false := by simp [World.frozen?, er0]
        have zf1 : WH.frozen? ⟨g + 1, 0, none⟩ = false := by simp [World.frozen?, er1]
        have HP8 := Lib.hid hp8
        have hlg : g + 2 ≤ lb := by omega
        have hhg : g + 2 ≤ Wh.heap.size := by have := HZL.out; omega
        have HMLH := Lib.hid (HML2.out.below HBH.out)
        clear hp8
        go_wp2_with fail
        go_region
        have HG8 := Lib.hid (show w.grownBy (((WH.setCell ⟨g, 0, none⟩ (.slice Al m cl)).setCell ⟨g + 1, 0, none⟩ (.slice Ah m ch)).drew) (some sb) from grown_trans (gset (gset (HP8.out.gr) (p := ⟨g, 0, none⟩) (by show w.heap.size ≤ g; rw [HG.out]; exact Nat.le_refl _) _) (p := ⟨g + 1, 0, none⟩) (by show w.heap.size ≤ g + 1; rw [HG.out]; omega) _) (grown_below (bdrew (bref _))))
        have HH8 := Lib.hid (show ∀ q, q ≠ g → q ≠ g + 1 → (((WH.setCell ⟨g, 0, none⟩ (.slice Al m cl)).setCell ⟨g + 1, 0, none⟩ (.slice Ah m ch)).drew).heap[q]? = WH.heap[q]? from fun q h1 h2 => (Below.heap_setCell _ _ _ q h2).trans (Below.heap_setCell _ _ _ q h1))
        have hs0 : (((WH.setCell ⟨g, 0, none⟩ (.slice Al m cl)).setCell ⟨g + 1, 0, none⟩ (.slice Ah m ch)).drew).heap[g]? = some (.cells #[(.slice Al m cl)] 27 (0, 0)) := by
          have e1 : (WH.setCell ⟨g, 0, none⟩ (.slice Al m cl)).heap[g]? = some (.cells #[(.slice Al m cl)] 27 (0, 0)) := by simp [World.setCell, Array.getElem?_modify, er0]
          exact (Below.heap_setCell _ _ _ g (by show g ≠ g + 1; omega)).trans e1
        have hs1 : (((WH.setCell ⟨g, 0, none⟩ (.slice Al m cl)).setCell ⟨g + 1, 0, none⟩ (.slice Ah m ch)).drew).heap[g + 1]? = some (.cells #[(.slice Ah m ch)] 27 (0, 0)) := by
          have e1 : (WH.setCell ⟨g, 0, none⟩ (.slice Al m cl)).heap[g + 1]? = some (.cells #[.slice none 0 0] 27 (0, 0)) := (Below.heap_setCell _ _ _ (g + 1) (by show g + 1 ≠ g; omega)).trans er1
          show ((WH.setCell ⟨g, 0, none⟩ (.slice Al m cl)).setCell ⟨g + 1, 0, none⟩ (.slice Ah m ch)).heap[g + 1]? = _
          simp [World.setCell, Array.getElem?_modify, er0, er1]
        have HTP8 := Lib.hid (show TapeOk (((WH.setCell ⟨g, 0, none⟩ (.slice Al m cl)).setCell ⟨g + 1, 0, none⟩ (.slice Ah m ch)).drew) sb from (TapeOk.setCell (TapeOk.setCell (HP8.out.tape) (p := ⟨g, 0, none⟩) (by show sb < g; omega) _) (p := ⟨g + 1, 0, none⟩) (by show sb < g + 1; omega) _).drew)
        generalize (((WH.setCell ⟨g, 0, none⟩ (.slice Al m cl)).setCell ⟨g + 1, 0, none⟩ (.slice Ah m ch)).drew) = W8 at *
        have y0 : W8.cell? ⟨g, 0, none⟩ = some ((.slice Al m cl)) := cell_of_row _ _ 0 _ _ (0, 0) hs0
        have y1 : W8.cell? ⟨g + 1, 0, none⟩ = some ((.slice Ah m ch)) := cell_of_row _ _ 0 _ _ (0, 0) hs1
        have HY0 := Lib.hid y0
        have HY1 := Lib.hid y1
        clear hs0 hs1 y0 y1
        go_wp2_with fail
        have y0 := HY0.out
        have y1 := HY1.out
        refine bodyPost_ret (v := .tuple #[.agg #[.slice Al m cl], .agg #[.slice Ah m ch]]) ?_ rfl ⟨_, _, ls, hs2, rfl, PairM.joined (by omega) hTs.out.1 HJL.out HJH.out, by rw [HJL.out.1]; omega, ?_, ?_, HTP8.out, HG8.out⟩
        · simp [results, Tryz.results13, go_sem, y0, y1]
        · have hG := HG.out
          exact HMLH.out.both (w' := W8) (fun q hq hP => HH8.out q (by have := hP; omega) (by have := hP; omega)) (fun q _ hP => by show w.heap.size ≤ q; have := hP; omega)
        · have hG := HG.out
          exact HMH2.out.both (w' := W8) (fun q hq hP => HH8.out q (by have := hP; omega) (by have := hP; omega)) (fun q _ hP => by show w.heap.size ≤ q; have := hP; omega)
end Go.Proofs.YtacpfcckilnbfaaGreat

namespace Go.Proofs.YtacpfcckilnbfaaGreat
set_option linter.unusedVariables false
set_option linter.unusedSimpArgs false
open Go.RowKit

/-- A pair in two boxes, and the tape. -/
structure PMade (w : World) (g : Nat) (vl vh : Value) (ls hs : List Mem) (W : World) : Prop where
  tape : TapeOk W w.heap.size
  l : W.heap[g]? = some (.cells #[vl] 27 (0, 0))
  h : W.heap[g + 1]? = some (.cells #[vh] 27 (0, 0))
  ml : MemsAt (fun b => w.heap.size < b) 3 W vl ls
  mh : MemsAt (fun b => w.heap.size < b) 3 W vh hs
  low : w.heap.size < g
  below : Below w.heap.size w W
theorem PMade.lt {w W : World} {g : Nat} {vl vh : Value} {ls hs : List Mem} (h : PMade w g vl vh ls hs W) : g + 1 < W.heap.size := (Array.getElem?_eq_some_iff.1 h.h).1
theorem PMade.cl {w W : World} {g : Nat} {vl vh : Value} {ls hs : List Mem} (h : PMade w g vl vh ls hs W) : W.cell? ⟨g, 0, none⟩ = some vl := cell_of_row _ _ 0 _ _ (0, 0) h.l
theorem PMade.ch {w W : World} {g : Nat} {vl vh : Value} {ls hs : List Mem} (h : PMade w g vl vh ls hs W) : W.cell? ⟨g + 1, 0, none⟩ = some vh := cell_of_row _ _ 0 _ _ (0, 0) h.h
theorem PMade.bel {w W W' : World} {g : Nat} {vl vh : Value} {ls hs : List Mem} (h : PMade w g vl vh ls hs W) (hb : Below W.heap.size W W') : PMade w g vl vh ls hs W' :=
  ⟨h.tape.below hb, (hb.block _ (by have := h.lt; omega)).trans h.l, (hb.block _ h.lt).trans h.h, h.ml.below hb, h.mh.below hb, h.low, bstep h.below hb⟩
theorem PMade.grown {w W W' : World} {g : Nat} {vl vh : Value} {ls hs : List Mem} (h : PMade w g vl vh ls hs W) (hs2 : TapeOk W' w.heap.size) (hg : W.grownBy W' (some w.heap.size)) : PMade w g vl vh ls hs W' :=
  ⟨hs2, (hg.block _ (by have := h.lt; omega) (by have := h.low; simp; omega)).trans h.l, (hg.block _ h.lt (by have := h.low; simp; omega)).trans h.h,
    h.ml.both (fun q hq hP => hg.block q hq (by simp; omega)) (fun _ _ h => h), h.mh.both (fun q hq hP => hg.block q hq (by simp; omega)) (fun _ _ h => h), h.low, bgrownC h.below hg (Nat.le_refl _)⟩
end Go.Proofs.YtacpfcckilnbfaaGreat

namespace Go.Proofs.YtacpfcckilnbfaaGreat
set_option linter.unusedVariables false
set_option linter.unusedSimpArgs false
open Go.RowKit

structure SMade (w : World) (sb g : Nat) (v : Value) (ms : List Mem) (W : World) : Prop where
  tape : TapeOk W sb
  out : W.heap[g]? = some (.cells #[v] 27 (0, 0))
  mems : MemsAt (fun b => sb < b) 2 W v ms
  low : sb < g
  gr : w.grownBy W (some sb)

theorem SMade.lt {w W : World} {sb g : Nat} {v : Value} {ms : List Mem} (h : SMade w sb g v ms W) : g < W.heap.size := by
  rcases Nat.lt_or_ge g W.heap.size with h1 | h1
  · exact h1
  · have := h.out; rw [Array.getElem?_eq_none h1] at this; cases this

theorem SMade.cell {w W : World} {sb g : Nat} {v : Value} {ms : List Mem} (h : SMade w sb g v ms W) : W.cell? ⟨g, 0, none⟩ = some v := cell_of_row _ _ 0 _ _ (0, 0) h.out

theorem SMade.bel {w W W' : World} {sb g : Nat} {v : Value} {ms : List Mem} (h : SMade w sb g v ms W) (hb : Below W.heap.size W W') : SMade w sb g v ms W' :=
  ⟨h.tape.below hb, (hb.block _ h.lt).trans h.out, h.mems.below hb, h.low, grown_trans h.gr (grown_below hb)⟩

theorem SMade.grown {w W W' : World} {sb g : Nat} {v : Value} {ms : List Mem} (h : SMade w sb g v ms W) (hs : TapeOk W' sb) (hg : W.grownBy W' (some sb)) : SMade w sb g v ms W' :=
  ⟨hs, (hg.block _ h.lt (by have := h.low; simp; omega)).trans h.out, h.mems.both (fun q hq hP => hg.block q hq (by simp; omega)) (fun _ _ h => h), h.low, grown_trans h.gr hg⟩

theorem SMade.keeps {w W : World} {sb g : Nat} {v : Value} {ms : List Mem} (h : SMade w sb g v ms W) : W.cell? ⟨g, 0, none⟩ = some v ∧ SMade w sb g v ms W := ⟨h.cell, h⟩

theorem keepZ {w W W' : World} {sb g : Nat} {v : Value} {ms : List Mem} (h : W.cell? ⟨g, 0, none⟩ = some v ∧ SMade w sb g v ms W) (hb : Below W.heap.size W W') : W'.cell? ⟨g, 0, none⟩ = some v ∧ SMade w sb g v ms W' := (h.2.bel hb).keeps

theorem growZ {w W W' : World} {sb g : Nat} {v : Value} {ms : List Mem} (h : W.cell? ⟨g, 0, none⟩ = some v ∧ SMade w sb g v ms W) (hs : TapeOk W' sb) (hg : W.grownBy W' (some sb)) : W'.cell? ⟨g, 0, none⟩ = some v ∧ SMade w sb g v ms W' := (h.2.grown hs hg).keeps

theorem tapeZ {w W : World} {sb g : Nat} {v : Value} {ms : List Mem} (h : W.cell? ⟨g, 0, none⟩ = some v ∧ SMade w sb g v ms W) : TapeOk W sb := h.2.tape

theorem memsZ {w W : World} {sb g : Nat} {v : Value} {ms : List Mem} (h : W.cell? ⟨g, 0, none⟩ = some v ∧ SMade w sb g v ms W) : MemsAt (fun b => sb < b) 2 W v ms := h.2.mems

theorem or_mul (s q a : Nat) (hs : s < 1024) (hq : q < 1024) (ha : a < 2) : ∃ r : Nat, r < 1024 ∧ bits .or .i64 (s : Int) (IntKind.i64.wrap ((q : Int) * (a : Int))) = (r : Int) := by
  rcases a with _ | a
  · refine ⟨s ||| 0, by simpa using hs, ?_⟩
    rw [show IntKind.i64.wrap ((q : Int) * ((0 : Nat) : Int)) = ((0 : Nat) : Int) by simp; rfl]
    exact i64_or_nat s 0 (by omega) (by omega)
  · obtain rfl : a = 0 := by omega
    refine ⟨s ||| q, Nat.or_lt_two_pow (n := 10) hs hq, ?_⟩
    rw [show IntKind.i64.wrap ((q : Int) * ((0 + 1 : Nat) : Int)) = ((q : Nat) : Int) by rw [IntWalk.i64_in _ (by push_cast; omega)]; push_cast; omega]
    exact i64_or_nat s q (by omega) (by omega)

set_option maxRecDepth 100000 in
set_option maxHeartbeats 4000000 in
theorem mkSet_run (sb : Nat) (ms : List Mem) (v : Value) (w : World) (hl0 : 1 ≤ ms.length) (hl : ms.length ≤ 10) (hs : TapeOk w sb) (h : MemsAt (fun b => sb < b) 2 w v ms) :
    Calls Tryz.prog 14 #[.pointer (some ⟨sb, 0, none⟩), .agg #[v]] w fun e w' => ∃ r : Nat, e = .returned (.int .i64 (r : Int)) ∧ r < 1024 ∧ TapeOk w' sb ∧ w.grownBy w' (some sb) := by
  obtain ⟨A, c, rfl⟩ := h.slice
  obtain ⟨L, hL⟩ : ∃ L, ms.length = L := ⟨_, rfl⟩
  rw [hL] at h hl0 hl ⊢
  have hba := balloc (bref w) (.cells #[.slice A L c] 27)
  have HM := Lib.hid (show SMade w sb w.heap.size (.slice A L c) ms (w.alloc (.cells #[.slice A L c] 27)) from ⟨hs.alloc _, alloc_at rfl, h.below hba, hs.lt, grown_below hba⟩)
  have HL := Lib.hid hL
  clear h hs hba hL
  go_enter Tryz.func14, Tryz.ntmps14
  go_upto_region 1 with fail
  generalize w.alloc (.cells #[.slice A L c] 27) = W1 at *
  generalize w.heap.size = g at *
  have c0 := HM.out.cell
  go_upto_region 3 with fail
  have hp5 : ∀ j, j < 5 → (W1.alloc (.cells #[.int .i64 0, .int .i64 1, .int .i64 1, .int .i64 2, .int .i64 3] 3)).cell? ⟨W1.heap.size, j, none⟩ = some (.int .i64 (([0, 1, 1, 2, 3] : List Int).getD j 0)) := by
    intro j hj
    rw [cell_of_row _ _ j _ _ (0, 0) (heap_alloc_new _ _)]
    match j, hj with
    | 0, _ | 1, _ | 2, _ | 3, _ | 4, _ => rfl
  have HP5 := Lib.hid hp5
  have hsb : W1.heap.size ≠ sb := by have := HM.out.tape.lt; omega
  clear hp5 c0
  go_wp2_with fail
  refine (TPick_run _ sb W1.heap.size [0, 1, 1, 2, 3] 5 rfl (by omega) (by omega) HP5.out hsb (HM.out.tape.alloc _)).mono ?_
  rintro e W2 ⟨j, hj, rfl, hs1, hg1⟩
  obtain ⟨q, hq, hq3⟩ : ∃ q : Nat, ([0, 1, 1, 2, 3] : List Int).getD j 0 = (q : Int) ∧ q ≤ 3 := by
    match j, hj with
    | 0, _ => exact ⟨0, rfl, by omega⟩
    | 1, _ => exact ⟨1, rfl, by omega⟩
    | 2, _ => exact ⟨1, rfl, by omega⟩
    | 3, _ => exact ⟨2, rfl, by omega⟩
    | 4, _ => exact ⟨3, rfl, by omega⟩
  rw [hq]
  have H2 := Lib.hid ((HM.out.bel (balloc (bref W1) (.cells #[.int .i64 0, .int .i64 1, .int .i64 1, .int .i64 2, .int .i64 3] 3))).grown hs1 hg1)
  clear hq hj hs1 hg1 HP5 hsb
  go_wp2_with fail
  go_loopw [6, 7] (fun sv t W => ∃ (s q : Nat), sv = .int .i64 (s : Int) ∧ t = .int .i64 (q : Int) ∧ s < 1024 ∧ q ≤ 3 ∧ Hid (SMade w sb g (.slice A L c) ms W)) (fun _ t _ => (intOf t).toNat)
  case atStart => exact ⟨0, q, rfl, rfl, by omega, hq3, H2⟩
  case round =>
    obtain ⟨s, q, rfl, rfl, hs, hq, hM⟩ := hrel
    by_cases hpos : 0 < q
    · have hqi : (0 : Int) < (q : Int) := by omega
      go_wp2_with fail
      refine (TN_run _ sb _ (by omega) (by omega) hM.out.tape).mono ?_
      rintro e W3 ⟨r, hr0, hr1, rfl, hs3, hg3⟩
      obtain ⟨K, rfl⟩ := Int.eq_ofNat_of_zero_le hr0
      have H3 := Lib.hid (hM.out.grown hs3 hg3)
      have HOR := Lib.hid (shl_or s K hs (by omega))
      have hso : s ||| 2 ^ K < 1024 := Nat.or_lt_two_pow (n := 10) hs (Nat.pow_lt_pow_right (by omega) (by omega))
      have hk0 : (0 : Int) ≤ (K : Int) := by omega
      have hk64 : (K : Int) < 64 := by omega
      clear hs3 hg3 hM
      go_wp2_with fail
      rw [HOR.out]
      go_roundw
      case rel => exact ⟨s ||| 2 ^ K, q - 1, rfl, by go_num, hso, by omega, H3⟩
      case measure => simp [intOf]; omega
    · obtain rfl : q = 0 := by omega
      clear hpos
      go_upto_region 7 with fail
      have hp := pow11' L (by omega)
      obtain ⟨N, hN⟩ : ∃ N, 2 ^ L = N := ⟨_, rfl⟩
      have hpL : 2 ^ L ≤ 2 ^ 10 := Nat.pow_le_pow_right (by omega) hl
      have hpp : 1 ≤ 2 ^ L := Nat.one_le_pow _ _ (by omega)
      rw [hN] at hp hpL hpp
      have hw1 : IntKind.i64.wrap ((N : Int) - 1) = ((N - 1 : Nat) : Int) := (IntWalk.i64_in _ (by omega)).trans (by omega)
      have hdl := declS_lt ms ms.length (by rw [HL.out]; exact hl)
      have hand := andNot_nat (N - 1) (declS ms ms.length) (by omega) hdl
      have HQL := Lib.hid (show (N - 1) ^^^ ((N - 1) &&& declS ms ms.length) < 1024 from Nat.xor_lt_two_pow (n := 10) (by omega) (Nat.lt_of_le_of_lt Nat.and_le_left (by omega)))
      obtain ⟨D, hD⟩ : ∃ D, declS ms ms.length = D := ⟨_, rfl⟩
      have HD := Lib.hid hD
      rw [hD] at hand HQL
      generalize (N - 1) ^^^ ((N - 1) &&& D) = Q at *
      generalize N - 1 = n1 at *
      have HLL := Lib.hid (show ms.length ≤ 10 by rw [HL.out]; exact hl)
      clear hN hD hdl
      have hS := Lib.hid (hM.out.bel ⟨rfl, rfl, rfl, Nat.le_refl _, fun _ _ => rfl⟩ : SMade w sb g (.slice A L c) ms wr.drew).keeps
      go_region_held3 (fun W => W.cell? ⟨g, 0, none⟩ = some (.slice A L c) ∧ SMade w sb g (.slice A L c) ms W) (first | exact hS.out | exact hSK | exact keepZ (by assumption) hbK | go_keep)
        (first
          | (go_at_call 21; refine (TN_run _ _ _ (by omega) (by omega) (by exact tapeZ (by assumption))).mono ?_; rintro e WK ⟨r, hr0, hr1, rfl, hsK, hgK⟩; obtain ⟨a, rfl⟩ := Int.eq_ofNat_of_zero_le hr0; have hSK := growZ (by assumption) hsK hgK)
          | (go_at_call 20; refine (rdeclared_run _ 2 ms _ _ HLL.out (by exact memsZ (by assumption))).mono ?_; rintro e WK ⟨rfl, hbK⟩; rw [HD.out]; have hSK := keepZ (by assumption) hbK))
      all_goals
        obtain ⟨R, hR, hRe⟩ := or_mul s Q a hs HQL.out (by omega)
        have HZ := Lib.hid (And.intro hR (And.intro hSK.2.tape hSK.2.gr))
        have HRE := Lib.hid hRe
        clear hRe hSK
        go_wp2_with fail
        go_ret
        exact ⟨R, by first | rfl | (rw [HRE.out]; rfl), HZ.out⟩

end Go.Proofs.YtacpfcckilnbfaaGreat

namespace Go.Proofs.YtacpfcckilnbfaaGreat
set_option linter.unusedVariables false
set_option linter.unusedSimpArgs false
open Go.RowKit

theorem or_mulN {L : Nat} (s q a : Nat) (hL : L ≤ 10) (hs : s < 2 ^ L) (hq : q < 2 ^ L) (ha : a < 2) : ∃ r : Nat, r < 2 ^ L ∧ bits .or .i64 (s : Int) (IntKind.i64.wrap ((q : Int) * (a : Int))) = (r : Int) := by
  have h10 : 2 ^ L ≤ 2 ^ 10 := Nat.pow_le_pow_right (by omega) hL
  rcases a with _ | a
  · refine ⟨s ||| 0, by simpa using hs, ?_⟩
    rw [show IntKind.i64.wrap ((q : Int) * ((0 : Nat) : Int)) = ((0 : Nat) : Int) by simp; rfl]
    exact i64_or_nat s 0 (by omega) (by omega)
  · obtain rfl : a = 0 := by omega
    refine ⟨s ||| q, Nat.or_lt_two_pow hs hq, ?_⟩
    rw [show IntKind.i64.wrap ((q : Int) * ((0 + 1 : Nat) : Int)) = ((q : Nat) : Int) by rw [IntWalk.i64_in _ (by push_cast; omega)]; push_cast; omega]
    exact i64_or_nat s q (by omega) (by omega)

set_option maxRecDepth 100000 in
set_option maxHeartbeats 4000000 in
theorem mkSetN_run (sb : Nat) (ms : List Mem) (v : Value) (w : World) (hl0 : 1 ≤ ms.length) (hl : ms.length ≤ 10) (hs : TapeOk w sb) (h : MemsAt (fun b => sb < b) 2 w v ms) :
    Calls Tryz.prog 14 #[.pointer (some ⟨sb, 0, none⟩), .agg #[v]] w fun e w' => ∃ r : Nat, e = .returned (.int .i64 (r : Int)) ∧ r < 2 ^ ms.length ∧ TapeOk w' sb ∧ w.grownBy w' (some sb) := by
  obtain ⟨A, c, rfl⟩ := h.slice
  obtain ⟨L, hL⟩ : ∃ L, ms.length = L := ⟨_, rfl⟩
  rw [hL] at h hl0 hl ⊢
  have hba := balloc (bref w) (.cells #[.slice A L c] 27)
  have HM := Lib.hid (show SMade w sb w.heap.size (.slice A L c) ms (w.alloc (.cells #[.slice A L c] 27)) from ⟨hs.alloc _, alloc_at rfl, h.below hba, hs.lt, grown_below hba⟩)
  have HL := Lib.hid hL
  have hpL : 2 ^ L ≤ 2 ^ 10 := Nat.pow_le_pow_right (by omega) hl
  have hpp : 1 ≤ 2 ^ L := Nat.one_le_pow _ _ (by omega)
  obtain ⟨N, hN⟩ : ∃ N, 2 ^ L = N := ⟨_, rfl⟩
  have HN := Lib.hid hN
  rw [hN] at hpL hpp ⊢
  clear hN
  clear h hs hba hL
  go_enter Tryz.func14, Tryz.ntmps14
  go_upto_region 1 with fail
  generalize w.alloc (.cells #[.slice A L c] 27) = W1 at *
  generalize w.heap.size = g at *
  have c0 := HM.out.cell
  go_upto_region 3 with fail
  have hp5 : ∀ j, j < 5 → (W1.alloc (.cells #[.int .i64 0, .int .i64 1, .int .i64 1, .int .i64 2, .int .i64 3] 3)).cell? ⟨W1.heap.size, j, none⟩ = some (.int .i64 (([0, 1, 1, 2, 3] : List Int).getD j 0)) := by
    intro j hj
    rw [cell_of_row _ _ j _ _ (0, 0) (heap_alloc_new _ _)]
    match j, hj with
    | 0, _ | 1, _ | 2, _ | 3, _ | 4, _ => rfl
  have HP5 := Lib.hid hp5
  have hsb : W1.heap.size ≠ sb := by have := HM.out.tape.lt; omega
  clear hp5 c0
  go_wp2_with fail
  refine (TPick_run _ sb W1.heap.size [0, 1, 1, 2, 3] 5 rfl (by omega) (by omega) HP5.out hsb (HM.out.tape.alloc _)).mono ?_
  rintro e W2 ⟨j, hj, rfl, hs1, hg1⟩
  obtain ⟨q, hq, hq3⟩ : ∃ q : Nat, ([0, 1, 1, 2, 3] : List Int).getD j 0 = (q : Int) ∧ q ≤ 3 := by
    match j, hj with
    | 0, _ => exact ⟨0, rfl, by omega⟩
    | 1, _ => exact ⟨1, rfl, by omega⟩
    | 2, _ => exact ⟨1, rfl, by omega⟩
    | 3, _ => exact ⟨2, rfl, by omega⟩
    | 4, _ => exact ⟨3, rfl, by omega⟩
  rw [hq]
  have H2 := Lib.hid ((HM.out.bel (balloc (bref W1) (.cells #[.int .i64 0, .int .i64 1, .int .i64 1, .int .i64 2, .int .i64 3] 3))).grown hs1 hg1)
  clear hq hj hs1 hg1 HP5 hsb
  go_wp2_with fail
  go_loopw [6, 7] (fun sv t W => ∃ (s q : Nat), sv = .int .i64 (s : Int) ∧ t = .int .i64 (q : Int) ∧ s < N ∧ q ≤ 3 ∧ Hid (SMade w sb g (.slice A L c) ms W)) (fun _ t _ => (intOf t).toNat)
  case atStart => exact ⟨0, q, rfl, rfl, by omega, hq3, H2⟩
  case round =>
    obtain ⟨s, q, rfl, rfl, hs, hq, hM⟩ := hrel
    by_cases hpos : 0 < q
    · have hqi : (0 : Int) < (q : Int) := by omega
      go_wp2_with fail
      refine (TN_run _ sb _ (by omega) (by omega) hM.out.tape).mono ?_
      rintro e W3 ⟨r, hr0, hr1, rfl, hs3, hg3⟩
      obtain ⟨K, rfl⟩ := Int.eq_ofNat_of_zero_le hr0
      have H3 := Lib.hid (hM.out.grown hs3 hg3)
      have HOR := Lib.hid (shl_or s K (by omega) (by omega))
      have hso : s ||| 2 ^ K < N := by rw [← HN.out]; exact Nat.or_lt_two_pow (by rw [HN.out]; exact hs) (Nat.pow_lt_pow_right (by omega) (by omega))
      have hk0 : (0 : Int) ≤ (K : Int) := by omega
      have hk64 : (K : Int) < 64 := by omega
      clear hs3 hg3 hM
      go_wp2_with fail
      rw [HOR.out]
      go_roundw
      case rel => exact ⟨s ||| 2 ^ K, q - 1, rfl, by go_num, hso, by omega, H3⟩
      case measure => simp [intOf]; omega
    · obtain rfl : q = 0 := by omega
      clear hpos
      go_upto_region 7 with fail
      have hp := pow11' L (by omega)
      rw [HN.out] at hp
      have hw1 : IntKind.i64.wrap ((N : Int) - 1) = ((N - 1 : Nat) : Int) := (IntWalk.i64_in _ (by omega)).trans (by omega)
      have hdl := declS_lt ms ms.length (by rw [HL.out]; exact hl)
      have hand := andNot_nat (N - 1) (declS ms ms.length) (by omega) hdl
      have HQL := Lib.hid (show (N - 1) ^^^ ((N - 1) &&& declS ms ms.length) < N by rw [← HN.out]; exact Nat.xor_lt_two_pow (by rw [HN.out]; omega) (Nat.lt_of_le_of_lt Nat.and_le_left (by rw [HN.out]; omega)))
      obtain ⟨D, hD⟩ : ∃ D, declS ms ms.length = D := ⟨_, rfl⟩
      have HD := Lib.hid hD
      rw [hD] at hand HQL
      generalize (N - 1) ^^^ ((N - 1) &&& D) = Q at *
      generalize N - 1 = n1 at *
      have HLL := Lib.hid (show ms.length ≤ 10 by rw [HL.out]; exact hl)
      clear hD hdl
      have hS := Lib.hid (hM.out.bel ⟨rfl, rfl, rfl, Nat.le_refl _, fun _ _ => rfl⟩ : SMade w sb g (.slice A L c) ms wr.drew).keeps
      go_region_held3 (fun W => W.cell? ⟨g, 0, none⟩ = some (.slice A L c) ∧ SMade w sb g (.slice A L c) ms W) (first | exact hS.out | exact hSK | exact keepZ (by assumption) hbK | go_keep)
        (first
          | (go_at_call 21; refine (TN_run _ _ _ (by omega) (by omega) (by exact tapeZ (by assumption))).mono ?_; rintro e WK ⟨r, hr0, hr1, rfl, hsK, hgK⟩; obtain ⟨a, rfl⟩ := Int.eq_ofNat_of_zero_le hr0; have hSK := growZ (by assumption) hsK hgK)
          | (go_at_call 20; refine (rdeclared_run _ 2 ms _ _ HLL.out (by exact memsZ (by assumption))).mono ?_; rintro e WK ⟨rfl, hbK⟩; rw [HD.out]; have hSK := keepZ (by assumption) hbK))
      all_goals
        obtain ⟨R, hR, hRe⟩ := or_mulN (L := L) s Q a hl (by rw [HN.out]; exact hs) (by rw [HN.out]; exact HQL.out) (by omega)
        rw [HN.out] at hR
        have HZ := Lib.hid (And.intro hR (And.intro hSK.2.tape hSK.2.gr))
        have HRE := Lib.hid hRe
        clear hRe hSK
        go_wp2_with fail
        go_ret
        exact ⟨R, by first | rfl | (rw [HRE.out]; rfl), HZ.out⟩

end Go.Proofs.YtacpfcckilnbfaaGreat

namespace Go.Proofs.YtacpfcckilnbfaaGreat
set_option linter.unusedVariables false
set_option linter.unusedSimpArgs false

/-- All dispensable sets that contain ill. -/
def AllL (f g : Nat → Nat → Bool) (D n ill : Nat) (l : List Nat) : Prop := ∀ t, t ∈ l ↔ t < 2 ^ n ∧ Sub ill t ∧ DispB f g D n t
def bfold (n : Nat) (l : List Nat) : Nat := l.foldl (fun a b => a &&& b) (2 ^ n - 1)
theorem fold_bit : ∀ (l : List Nat) (s k : Nat), (l.foldl (fun a b => a &&& b) s).testBit k = true ↔ s.testBit k = true ∧ ∀ x ∈ l, x.testBit k = true
  | [], s, k => by simp
  | x :: l, s, k => by
    rw [List.foldl_cons, fold_bit l, Nat.testBit_and, Bool.and_eq_true]
    simp [and_assoc]
theorem bf_bit {n k : Nat} {l : List Nat} : (bfold n l).testBit k = true ↔ k < n ∧ ∀ x ∈ l, x.testBit k = true := by
  unfold bfold
  rw [fold_bit, Nat.testBit_two_pow_sub_one, decide_eq_true_iff]
theorem bf_lt (n : Nat) (l : List Nat) : bfold n l < 2 ^ n := Nat.lt_pow_two_of_testBit _ (fun k hk => by
  cases h : (bfold n l).testBit k
  · rfl
  · have := (bf_bit.1 h).1; omega)
theorem bf_sub {n x : Nat} {l : List Nat} (h : x ∈ l) : Sub (bfold n l) x := fun k hk => (bf_bit.1 hk).2 x h
theorem bf_mem {f g : Nat → Nat → Bool} {D n ill : Nat} {l : List Nat} (P : PairF f g D n) (hil : ill < 2 ^ n) (hi : IntB f D ill) (h : AllL f g D n ill l) : bfold n l ∈ l := by
  have key : ∀ (m : List Nat) (s : Nat), s ∈ l → (∀ x ∈ m, x ∈ l) → m.foldl (fun a b => a &&& b) s ∈ l := by
    intro m
    induction m with
    | nil => intro s hs _; exact hs
    | cons x m ih =>
      intro s hs hm
      refine ih _ ?_ (fun y hy => hm y (by simp [hy]))
      have h1 := (h s).1 hs
      have h2 := (h x).1 (hm x (by simp))
      refine (h _).2 ⟨Nat.lt_of_le_of_lt Nat.and_le_left h1.1, fun k hk => ?_, disp_meets P h1.1 h2.1 hil h1.2.1 h2.2.1 hi h1.2.2 h2.2.2⟩
      rw [Nat.testBit_and, h1.2.1 k hk, h2.2.1 k hk]; rfl
  refine key l _ ((h _).2 ⟨by have := Nat.two_pow_pos n; omega, fun k hk => ?_, disp_all P⟩) (fun x hx => hx)
  rw [Nat.testBit_two_pow_sub_one, decide_eq_true (lt_bit hil hk)]
theorem bf_ill {f g : Nat → Nat → Bool} {D n ill : Nat} {l : List Nat} (hil : ill < 2 ^ n) (h : AllL f g D n ill l) : Sub ill (bfold n l) := fun k hk => bf_bit.2 ⟨lt_bit hil hk, fun x hx => ((h x).1 hx).2.1 k hk⟩
theorem int_bit {n b k : Nat} : (outS n b).testBit k = true ↔ k < n ∧ b.testBit k = false := by
  rw [outS_bit]; simp
/-- The intact members are a quorum of High. -/
theorem int_quorum {f g : Nat → Nat → Bool} {D n ill : Nat} {l : List Nat} (P : PairF f g D n) (hil : ill < 2 ^ n) (hi : IntB f D ill) (h : AllL f g D n ill l) (h0 : outS n (bfold n l) ≠ 0) : QB g D 0 (outS n (bfold n l)) := by
  rcases ((h _).1 (bf_mem P hil hi h)).2.2.1 with h1 | h1
  · exact absurd h1 h0
  · exact h1
/-- A quorum of High is one of Low. -/
theorem quorum_low {f g : Nat → Nat → Bool} {D n u : Nat} (P : PairF f g D n) (h : QB g D 0 u) : QB f D 0 u :=
  ⟨h.1, h.2.1, fun k hk => ⟨(h.2.2 k hk).1, (h.2.2 k hk).2.1, P.gf k _ (h.2.2 k hk).2.1 (or_lt h.2.1 (by omega)) (h.2.2 k hk).2.2⟩⟩
theorem bf_mono {f g : Nat → Nat → Bool} {D n ill more : Nat} {l m : List Nat} (hs : Sub ill more) (h : AllL f g D n ill l) (h' : AllL f g D n more m) : Sub (bfold n l) (bfold n m) := fun k hk =>
  bf_bit.2 ⟨(bf_bit.1 hk).1, fun x hx => (bf_bit.1 hk).2 x ((h x).2 ⟨((h' x).1 hx).1, fun j hj => ((h' x).1 hx).2.1 j (hs j hj), ((h' x).1 hx).2.2⟩)⟩
theorem sub_anti {a b : Nat} (h1 : Sub a b) (h2 : Sub b a) : a = b := Nat.eq_of_testBit_eq (fun k => by
  cases h : a.testBit k
  · cases h' : b.testBit k
    · rfl
    · rw [h2 k h'] at h; cases h
  · rw [h1 k h])
theorem bf_again {f g : Nat → Nat → Bool} {D n ill : Nat} {l m : List Nat} (P : PairF f g D n) (hil : ill < 2 ^ n) (hi : IntB f D ill) (h : AllL f g D n ill l) (h' : AllL f g D n (bfold n l) m) : bfold n m = bfold n l := by
  refine sub_anti (bf_sub ((h' _).2 ⟨bf_lt n l, fun k hk => hk, ((h _).1 (bf_mem P hil hi h)).2.2⟩)) (bf_mono (bf_ill hil h) h h')
theorem bf_int {f g : Nat → Nat → Bool} {D n ill : Nat} {l : List Nat} (P : PairF f g D n) (hil : ill < 2 ^ n) (hi : IntB f D ill) (h : AllL f g D n ill l) : IntB f D (bfold n l) := ((h _).1 (bf_mem P hil hi h)).2.2.2
theorem compl_bit {s k : Nat} (h : s < 1024) : (1023 - s).testBit k = (decide (k < 10) && !s.testBit k) := by
  have : 1023 - s = 2 ^ 10 - (s + 1) := by omega
  rw [this, Nat.testBit_two_pow_sub_succ h]
/-- The cascade: as long as an intact member is missing, one that is missing is blocked. -/
theorem casc_step {f g : Nat → Nat → Bool} {D n ill u x : Nat} {l : List Nat} (P : PairF f g D n) (hil : ill < 2 ^ n) (hi : IntB f D ill) (h : AllL f g D n ill l) (hloc : ∀ k s, D.testBit k = true → s < 1024 → f k s = f k (s &&& (2 ^ n - 1)))
    (hu : QB f D 0 u) (hua : ∃ k, u.testBit k = true ∧ (outS n (bfold n l)).testBit k = true) (hux : ∀ k, u.testBit k = true → (outS n (bfold n l)).testBit k = true → x.testBit k = true) (hx : x < 1024)
    (hne : ∃ k, (outS n (bfold n l)).testBit k = true ∧ x.testBit k = false) :
    ∃ k, (outS n (bfold n l)).testBit k = true ∧ x.testBit k = false ∧ D.testBit k = true ∧ f k (1023 - (x &&& outS n (bfold n l))) = false := by
  have p10 := pow_1024 P.n10
  obtain ⟨b, hb⟩ : ∃ b, bfold n l = b := ⟨_, rfl⟩
  have hbi := bf_int P hil hi h
  have hbl := bf_lt n l
  have h0 : outS n (bfold n l) ≠ 0 := by obtain ⟨k, hk⟩ := hne; exact ne_of_bit hk.1
  have hq := int_quorum P hil hi h h0
  simp only [hb] at hbi hbl h0 hq hua hux hne ⊢
  have ha := outS_lt2 n b
  obtain ⟨a, haa⟩ : ∃ a, outS n b = a := ⟨_, rfl⟩
  have hab : ∀ k, a.testBit k = true ↔ k < n ∧ b.testBit k = false := fun k => by rw [← haa]; exact int_bit
  simp only [haa] at h0 hq ha hua hux hne ⊢
  refine Classical.byContradiction fun hno => ?_
  have sat : ∀ k, a.testBit k = true → x.testBit k = false → f k (1023 - (x &&& a)) = true := fun k h1 h2 => by
    cases h3 : f k (1023 - (x &&& a))
    · exact absurd ⟨k, h1, h2, (hq.2.2 k h1).2.1, h3⟩ hno
    · rfl
  have hxa : x &&& a < 1024 := and_ltL hx
  have q1 : QB f D b (minS a x) := by
    refine ⟨?_, minS_lt (by omega), fun k hk => ?_⟩
    · obtain ⟨k, h1, h2⟩ := hne
      exact ne_of_bit (k := k) (by rw [minS_bit, h1, h2]; rfl)
    · rw [minS_bit, Bool.and_eq_true, Bool.not_eq_true'] at hk
      refine ⟨((hab k).1 hk.1).2, (hq.2.2 k hk.1).2.1, ?_⟩
      have h3 := sat k hk.1 hk.2
      rw [hloc k _ (hq.2.2 k hk.1).2.1 (by omega)] at h3
      refine P.mf k _ _ (and_ltL (by omega)) (or_lt (minS_lt (by omega)) (by omega)) (fun j hj => ?_) h3
      rw [Nat.testBit_and, compl_bit hxa, Nat.testBit_two_pow_sub_one, Nat.testBit_and] at hj
      rw [Nat.testBit_or, minS_bit]
      simp only [Bool.and_eq_true, decide_eq_true_eq, Bool.not_eq_true', Bool.and_eq_false_iff] at hj
      cases hbj : b.testBit j
      · have hja := (hab j).2 ⟨hj.2, hbj⟩
        rw [hja]
        rcases hj.1.2 with h4 | h4
        · rw [h4]; rfl
        · rw [hja] at h4; cases h4
      · simp
  have q2 : QB f D b (u &&& a) := by
    refine ⟨?_, and_ltL hu.2.1, fun k hk => ?_⟩
    · obtain ⟨k, h1, h2⟩ := hua
      exact ne_of_bit (k := k) (by rw [Nat.testBit_and, h1, h2]; rfl)
    · rw [Nat.testBit_and, Bool.and_eq_true] at hk
      refine ⟨((hab k).1 hk.2).2, (hu.2.2 k hk.1).2.1, ?_⟩
      have h3 := (hu.2.2 k hk.1).2.2
      rw [Nat.or_zero, hloc k _ (hu.2.2 k hk.1).2.1 hu.2.1] at h3
      refine P.mf k _ _ (and_ltL hu.2.1) (or_lt (and_ltL hu.2.1) (by omega)) (fun j hj => ?_) h3
      rw [Nat.testBit_and, Nat.testBit_two_pow_sub_one] at hj
      rw [Nat.testBit_or, Nat.testBit_and]
      simp only [Bool.and_eq_true, decide_eq_true_eq] at hj
      cases hbj : b.testBit j
      · rw [hj.1, (hab j).2 ⟨hj.2, hbj⟩]; rfl
      · simp
  obtain ⟨k, k1, k2⟩ := hbi _ _ q1 q2
  rw [minS_bit, Bool.and_eq_true, Bool.not_eq_true'] at k1
  rw [Nat.testBit_and, Bool.and_eq_true] at k2
  rw [hux k k2.1 k2.2] at k1
  exact absurd k1.2 (by simp)
end Go.Proofs.YtacpfcckilnbfaaGreat

namespace Go.Proofs.YtacpfcckilnbfaaGreat
set_option linter.unusedVariables false
set_option linter.unusedSimpArgs false
open Go.RowKit

/-- Nobody outside of s is blocked by it. -/
def CClosed (d : Nat) (ms : List Mem) (s : Nat) : Prop := ∀ k, k < ms.length → s.testBit k = false → blkM d ms s k = false

/-- The nodes of l follow, one after the other, from s on, and lead to r. -/
def CasR (d : Nat) (ms : List Mem) : Nat → List Int → Nat → Prop
  | s, [], r => r = s
  | s, x :: l, r => ∃ k : Nat, x = (k : Int) ∧ k < ms.length ∧ s.testBit k = false ∧ blkM d ms s k = true ∧ CasR d ms (s ||| 2 ^ k) l r

theorem CasR.snoc {d : Nat} {ms : List Mem} : ∀ (l : List Int) (s r k : Nat), CasR d ms s l r → k < ms.length → r.testBit k = false → blkM d ms r k = true → CasR d ms s (l ++ [(k : Int)]) (r ||| 2 ^ k)
  | [], s, r, k, h, hk, hb, hu => by
    obtain rfl : r = s := h
    exact ⟨k, rfl, hk, hb, hu, rfl⟩
  | x :: l, s, r, k, h, hk, hb, hu => by
    obtain ⟨j, e, hj, hbj, huj, h2⟩ := h
    exact ⟨j, e, hj, hbj, huj, CasR.snoc l _ r k h2 hk hb hu⟩

theorem CasR.none {d : Nat} {ms : List Mem} {s r : Nat} {l : List Int} (h : CasR d ms s l r) (hc : CClosed d ms s) : l = [] ∧ r = s := by
  cases l with
  | nil => exact ⟨rfl, h⟩
  | cons x l =>
    obtain ⟨k, _, hk, hb, hu, _⟩ := h
    rw [hc k hk hb] at hu; cases hu

/-- r is what a cascade from S has reached. -/
structure CasAt (d : Nat) (ms : List Mem) (S : Nat) (gs : List Int) (r : Nat) : Prop where
  lt : r < 1024
  len : gs.length + S ≤ r
  sub : Sub S r
  cas : CasR d ms S gs r
  least : ∀ Q, Q < 1024 → Sub S Q → CClosed d ms Q → Sub r Q

theorem CasAt.first {d : Nat} {ms : List Mem} {S : Nat} (h : S < 1024) : CasAt d ms S [] S := ⟨h, by simp, fun _ h => h, rfl, fun Q _ h _ => h⟩

theorem or_grows {r k : Nat} (hb : r.testBit k = false) : r + 1 ≤ r ||| 2 ^ k := by
  have h1 : r ≤ r ||| 2 ^ k := Nat.left_le_or
  rcases Nat.lt_or_ge r (r ||| 2 ^ k) with h2 | h2
  · exact h2
  · have e : r ||| 2 ^ k = r := by omega
    have h3 : (r ||| 2 ^ k).testBit k = true := by rw [Nat.testBit_or, Nat.testBit_two_pow_self, Bool.or_true]
    rw [e, hb] at h3; cases h3

theorem CasAt.step {d : Nat} {ms : List Mem} {S : Nat} {gs : List Int} {r k : Nat} (h : CasAt d ms S gs r) (hl : ms.length ≤ 10) (hk : k < ms.length) (hb : r.testBit k = false) (hu : blkM d ms r k = true) : CasAt d ms S (gs ++ [(k : Int)]) (r ||| 2 ^ k) := by
  have hg := or_grows hb
  have hp : 2 ^ k < 2 ^ 10 := Nat.pow_lt_pow_right (by omega) (by omega)
  refine ⟨Nat.or_lt_two_pow (n := 10) h.lt hp, by have := h.len; simp; omega, fun j hj => ?_, h.cas.snoc _ _ _ _ hk hb hu, fun Q hQ hQS hQc => fun j hj => ?_⟩
  · rw [Nat.testBit_or, h.sub j hj]; rfl
  · rw [Nat.testBit_or, Bool.or_eq_true] at hj
    have h1 := h.least Q hQ hQS hQc
    rcases hj with hj | hj
    · exact h1 j hj
    · rw [Nat.testBit_two_pow] at hj
      obtain rfl : k = j := by simpa using hj
      cases hq : Q.testBit k
      · have h2 := hQc k hk hq
        rw [blkM_sub hQ h1 hu] at h2; cases h2
      · rfl

/-- C is the cascade of S. -/
structure IsCas (d : Nat) (ms : List Mem) (S C : Nat) : Prop where
  sub : Sub S C
  closed : CClosed d ms C
  least : ∀ Q, Q < 1024 → Sub S Q → CClosed d ms Q → Sub C Q

theorem CasAt.is {d : Nat} {ms : List Mem} {S : Nat} {gs : List Int} {r : Nat} (h : CasAt d ms S gs r) (hc : CClosed d ms r) : IsCas d ms S r := ⟨h.sub, hc, h.least⟩

/-- What following says. -/
def FOk (d : Nat) (ms : List Mem) (s : Nat) (K : Int) : Prop := (∃ k : Nat, K = (k : Int) ∧ k < ms.length ∧ s.testBit k = false ∧ blkM d ms s k = true) ∨ (K = -1 ∧ CClosed d ms s)

end Go.Proofs.YtacpfcckilnbfaaGreat

namespace Go.Proofs.YtacpfcckilnbfaaGreat
set_option linter.unusedVariables false
set_option linter.unusedSimpArgs false
open Go.RowKit

theorem rb_fact (s k : Nat) (hs : s < 1024) (hk : k < 10) : bits .or .i64 (IntKind.i64.wrap (1023 - (s : Int))) (IntKind.i64.wrap (2 ^ k)) = ((1023 - offS s k : Nat) : Int) := by
  have all : ∀ s : Fin 1024, ∀ k : Fin 10, bits .or .i64 (IntKind.i64.wrap (1023 - (s.val : Int))) (IntKind.i64.wrap (2 ^ k.val)) = ((1023 - offS s.val k.val : Nat) : Int) := by decide +kernel
  exact all ⟨s, hs⟩ ⟨k, hk⟩

theorem blk_sat (d : Nat) (T : Tree) {o : Nat} (ho : o < 1024) : blkB d T (o : Int) = !satB d T ((1023 - o : Nat) : Int) := by
  unfold blkB satB
  rw [setB_iff.2 ⟨by omega, by omega⟩, setB_iff.2 ⟨by omega, by omega⟩, Bool.true_and, Bool.true_and, show ((1023 - o : Nat) : Int) = 1023 - (o : Int) by omega]

set_option maxRecDepth 100000 in
set_option maxHeartbeats 2000000 in
theorem rblocks_run (P : Nat → Prop) (d : Nat) (ms : List Mem) (v : Value) (k s : Nat) (w : World) (hl : ms.length ≤ 10) (hs : s < 1024) (hk : k < 10) (h : MemsAt P d w v ms) :
    Calls Tryz.prog 35 #[.agg #[v], .int .i64 (k : Int), .int .i64 (s : Int)] w fun e w' => e = .returned (.bool (blkM d ms s k)) ∧ Below w.heap.size w w' := by
  obtain ⟨A, c, rfl⟩ := h.slice
  have hb1 : Below w.heap.size w (w.alloc (.cells #[.slice A ms.length c] 27)) := balloc (bref w) _
  have k0 : (w.alloc (.cells #[.slice A ms.length c] 27)).heap[w.heap.size]? = some (.cells #[.slice A ms.length c] 27 (0, 0)) := alloc_at rfl
  have H := Lib.hid (h.below hb1)
  have HB := Lib.hid hb1
  have K0 := Lib.hid k0
  have hsv := Lib.hid (show setB (s : Int) = true from setB_iff.2 ⟨by omega, by omega⟩)
  have hdl := declS_lt ms ms.length hl
  clear h hb1 k0
  go_enter Tryz.func35, Tryz.ntmps35
  go_upto_region 1 with fail
  generalize w.alloc (.cells #[.slice A ms.length c] 27) = W1 at *
  generalize hg : w.heap.size = g at *
  have HG := Lib.hid hg
  clear hg
  have c0 : W1.cell? ⟨g, 0, none⟩ = some (.slice A ms.length c) := cell_of_row _ _ 0 _ _ (0, 0) K0.out
  have hgl := cell_lt c0
  have HBw := Lib.hid (show Below w.heap.size w W1 by rw [HG.out]; exact HB.out)
  go_wp2_with fail
  refine (rsetValid_run _ _).mono ?_
  rintro e w2 ⟨rfl, rfl⟩
  rw [hsv.out]
  go_wp2_with fail
  refine (rdeclared_run _ d ms _ _ hl H.out).mono ?_
  rintro e W2 ⟨rfl, hb2⟩
  have HB2 := Lib.hid hb2
  have d0 := (hb2.cell hgl).trans c0
  clear hb2 c0
  have HBM := Lib.hid (show blkM d ms s k = ((declS ms ms.length).testBit k && blkB d (trOf ms k) ((offS s k : Nat) : Int)) from rfl)
  have HDB := Lib.hid (fun (h : (declS ms ms.length).testBit k = true) => declS_bit h)
  generalize declS ms ms.length = D at *
  have hbit := hasB_bit hdl hk
  cases hb : D.testBit k
  · rw [hb] at hbit HBM
    go_wp2_with fail
    refine (rhas_run _ _ _).mono ?_
    rintro e w3 ⟨rfl, rfl⟩
    rw [hbit]
    go_wp2_with fail
    go_ret
    exact ⟨by rw [HBM.out]; rfl, bstep HBw.out HB2.out⟩
  · have hkm := HDB.out hb
    rw [hb] at hbit HBM
    obtain ⟨m, hm⟩ : ∃ m, ms[k]? = some m := ⟨_, List.getElem?_eq_getElem hkm⟩
    obtain ⟨bm, om, t, A1, n1, c1, A2, n2, c2, rfl, hP, hbl, e0, e1, e2, e3, hT⟩ := memBox (H.out.below HB2.out) hm
    have htr : trOf ms k = m.2 := by unfold trOf; rw [List.getD_eq_getElem?_getD, hm]; rfl
    rw [htr] at HBM
    obtain ⟨dec, T⟩ := m
    have HOFF := rb_fact s k hs hk
    have HBS := Lib.hid (blk_sat d T (offS_lt (k := k) hs))
    have hki : (k : Int) < (ms.length : Int) := by omega
    have hk0 : (0 : Int) ≤ (k : Int) := by omega
    have hk64 : ¬ (64 : Int) ≤ (k : Int) := by omega
    clear hm htr hb e0
    go_wp2_with fail
    refine (rhas_run _ _ _).mono ?_
    rintro e w3 ⟨rfl, rfl⟩
    rw [hbit]
    go_upto_region 3 with fail
    have hdr : Below W2.heap.size W2 W2.drew := ⟨rfl, rfl, rfl, Nat.le_refl _, fun _ _ => rfl⟩
    have hS := Lib.hid (show W2.drew.cell? ⟨g, 0, none⟩ = some (.slice (some ⟨bm, om, none⟩) ms.length c) ∧ W2.drew.cell? ⟨bm, om + k * 4 + 1, none⟩ = some (.int .i64 t) ∧ W2.drew.cell? ⟨bm, om + k * 4 + 2, none⟩ = some (.slice A1 n1 c1) ∧ W2.drew.cell? ⟨bm, om + k * 4 + 3, none⟩ = some (.slice A2 n2 c2) ∧ TAt P d W2.drew (.int .i64 t) (.slice A1 n1 c1) (.slice A2 n2 c2) T ∧ Below w.heap.size w W2.drew from
      ⟨d0, e1, e2, e3, hT.below hdr, bstep (bstep HBw.out HB2.out) hdr⟩)
    clear hT hdr
    go_region_held3 (fun W => W.cell? ⟨g, 0, none⟩ = some (.slice (some ⟨bm, om, none⟩) ms.length c) ∧ W.cell? ⟨bm, om + k * 4 + 1, none⟩ = some (.int .i64 t) ∧ W.cell? ⟨bm, om + k * 4 + 2, none⟩ = some (.slice A1 n1 c1) ∧ W.cell? ⟨bm, om + k * 4 + 3, none⟩ = some (.slice A2 n2 c2) ∧ TAt P d W (.int .i64 t) (.slice A1 n1 c1) (.slice A2 n2 c2) T ∧ Below w.heap.size w W) (first | exact hS.out | exact hSK | assumption)
      (first
        | (go_at_call 63; refine (rsat_run _ d T _ _ _ (1023 - offS s k) _ (by omega) (by first | exact hHeld.2.2.2.2.1 | exact hS.out.2.2.2.2.1)).mono ?_; rintro e WK ⟨rfl, hbK⟩; have hSK := (show WK.cell? ⟨g, 0, none⟩ = some (.slice (some ⟨bm, om, none⟩) ms.length c) ∧ WK.cell? ⟨bm, om + k * 4 + 1, none⟩ = some (.int .i64 t) ∧ WK.cell? ⟨bm, om + k * 4 + 2, none⟩ = some (.slice A1 n1 c1) ∧ WK.cell? ⟨bm, om + k * 4 + 3, none⟩ = some (.slice A2 n2 c2) ∧ TAt P d WK (.int .i64 t) (.slice A1 n1 c1) (.slice A2 n2 c2) T ∧ Below w.heap.size w WK from ⟨(hbK.cell (cell_lt hS.out.1)).trans hS.out.1, (hbK.cell (cell_lt hS.out.2.1)).trans hS.out.2.1, (hbK.cell (cell_lt hS.out.2.2.1)).trans hS.out.2.2.1, (hbK.cell (cell_lt hS.out.2.2.2.1)).trans hS.out.2.2.2.1, hS.out.2.2.2.2.1.below hbK, bstep hS.out.2.2.2.2.2 hbK⟩)))
    all_goals
      have HZ := Lib.hid hSK.2.2.2.2.2
      clear hSK
      go_wp2_with fail
      go_ret
      exact ⟨by rw [HBM.out, HBS.out]; rfl, HZ.out⟩

end Go.Proofs.YtacpfcckilnbfaaGreat
