/- What the laws of this seat share: part 6. -/
import Derived.Test.YtacpfcckilnbfaaGreatB5

namespace Go.Proofs.YtacpfcckilnbfaaGreat
set_option linter.unusedVariables false
set_option linter.unusedSimpArgs false
open Go.RowKit

/-- The world of Pair: two boxes for the results, one for the configuration; nothing but the tape changes of what lay before. -/
structure PairW (w : World) (sb g cb B0 : Nat) (v : Value) (ms : List Mem) (W : World) : Prop where
  r0 : W.heap[g]? = some (.cells #[.slice none 0 0] 27 (0, 0))
  r1 : W.heap[g + 1]? = some (.cells #[.slice none 0 0] 27 (0, 0))
  box : W.heap[cb]? = some (.cells #[v] 27 (0, 0))
  mems : MemsAt (fun b => g + 2 ≤ b ∧ b < B0) 2 W v ms
  tape : TapeOk W sb
  gr : w.grownBy W (some sb)

theorem PairW.grow {w W W' : World} {sb g cb B0 : Nat} {v : Value} {ms : List Mem} (h : PairW w sb g cb B0 v ms W) (hsg : sb < g) (hcb : sb < cb) (hs : TapeOk W' sb) (hr : W.grownBy W' (some sb)) : PairW w sb g cb B0 v ms W' :=
  ⟨(hr.block _ (Array.getElem?_eq_some_iff.1 h.r0).1 (by simp; omega)).trans h.r0, (hr.block _ (Array.getElem?_eq_some_iff.1 h.r1).1 (by simp; omega)).trans h.r1, (hr.block _ (Array.getElem?_eq_some_iff.1 h.box).1 (by simp; omega)).trans h.box,
    h.mems.both (fun q hq hP => hr.block q hq (by simp; omega)) (fun _ _ h => h), hs, grown_trans h.gr hr⟩

theorem PairW.far {w W W' : World} {sb g cb B0 : Nat} {v : Value} {ms : List Mem} (h : PairW w sb g cb B0 v ms W) (hk : ∀ q, q < B0 → W'.heap[q]? = W.heap[q]?) (h1 : g + 1 < B0) (h2 : cb < B0) (h3 : sb < g) (hg : w.grownBy W' (some sb)) : PairW w sb g cb B0 v ms W' :=
  ⟨(hk _ (by omega)).trans h.r0, (hk _ (by omega)).trans h.r1, (hk _ h2).trans h.box, h.mems.both (fun q _ hP => hk q hP.2) (fun _ _ h => h), h.tape.keepLow (fun k hk2 => hk k (by omega)), hg⟩

theorem cell_one_new (w : World) (a : Value) (t : TypeId) : ∀ j u, [a][j]? = some u → (w.alloc (.cells #[a] t)).cell? ((⟨w.heap.size, 0, none⟩ : Addr).add j) = some u :=
  fun j u hu => World.news_of_block (heap_alloc_new w _) j u (by simpa using hu)

theorem infoLists : (Tryz.prog.info? 71).map (fun i => (i.zero, i.size, i.bytes)) = some (some (.slice none 0 0), 1, 24) := by kernel_rfl

theorem PairW.below {w W W' : World} {sb g cb B0 : Nat} {v : Value} {ms : List Mem} (h : PairW w sb g cb B0 v ms W) (hsg : sb < g) (hcb : sb < cb) (hb : Below W.heap.size W W') : PairW w sb g cb B0 v ms W' := h.grow hsg hcb (h.tape.below hb) (grown_below hb)

set_option maxRecDepth 100000 in
set_option maxHeartbeats 16000000 in
theorem mkPair_run (sb n : Nat) (hn : 1 ≤ n) (hn1 : n ≤ 10) (w : World) (hs : TapeOk w sb) :
    Calls Tryz.prog 13 #[.pointer (some ⟨sb, 0, none⟩), .int .i64 n] w fun e w' => ∃ (vl vh : Value) (ls hs : List Mem), e = .returned (.tuple #[.agg #[vl], .agg #[vh]]) ∧ PairM ls hs ∧ ls.length ≤ n ∧ MemsAt (fun b => w.heap.size ≤ b) 3 w' vl ls ∧ MemsAt (fun b => w.heap.size ≤ b) 3 w' vh hs ∧ TapeOk w' sb ∧ w.grownBy w' (some sb) := by
  have hsl := hs.lt
  have hb2 : Below w.heap.size w ((w.alloc (.cells #[.slice none 0 0] 27)).alloc (.cells #[.slice none 0 0] 27)) := balloc (balloc (bref w) _) _
  have HS1 := Lib.hid (show TapeOk ((w.alloc (.cells #[.slice none 0 0] 27)).alloc (.cells #[.slice none 0 0] 27)) sb from (hs.alloc _).alloc _)
  have K0 := Lib.hid (show ((w.alloc (.cells #[.slice none 0 0] 27)).alloc (.cells #[.slice none 0 0] 27)).heap[w.heap.size]? = some (.cells #[.slice none 0 0] 27 (0, 0)) from alloc_on (alloc_at rfl))
  have K1 := Lib.hid (show ((w.alloc (.cells #[.slice none 0 0] 27)).alloc (.cells #[.slice none 0 0] 27)).heap[w.heap.size + 1]? = some (.cells #[.slice none 0 0] 27 (0, 0)) from alloc_at (alloc_sz _ _))
  have HGR := Lib.hid (show w.grownBy ((w.alloc (.cells #[.slice none 0 0] 27)).alloc (.cells #[.slice none 0 0] 27)) (some sb) from grown_below hb2)
  have hsz : ((w.alloc (.cells #[.slice none 0 0] 27)).alloc (.cells #[.slice none 0 0] 27)).heap.size = w.heap.size + 2 := by rw [alloc_sz, alloc_sz]
  clear hs hb2
  go_enter Tryz.func13, Tryz.ntmps13
  go_upto_region 1 with fail
  generalize ((w.alloc (.cells #[.slice none 0 0] 27)).alloc (.cells #[.slice none 0 0] 27)) = W1 at *
  generalize hg : w.heap.size = g at *
  have HG := Lib.hid hg
  clear hg
  go_wp2_with fail
  refine (config_run sb n hn hn1 _ HS1.out).mono ?_
  rintro e W2 ⟨v, ms, rfl, hm1, hmn, hma, hmo, hs2, hg2⟩
  obtain ⟨Av, cv, rfl⟩ := hma.slice
  obtain ⟨m, hm⟩ : ∃ m, ms.length = m := ⟨_, rfl⟩
  have HML := Lib.hid hm
  have hz2 : g + 2 ≤ W2.heap.size := by have := hg2.size; omega
  have HP := Lib.hid (show PairW w sb g W2.heap.size (W2.heap.size + 1) (.slice Av m cv) ms (W2.alloc (.cells #[.slice Av m cv] 27)) from
    ⟨alloc_on ((hg2.block g (by omega) (by simp; omega)).trans K0.out), alloc_on ((hg2.block (g + 1) (by omega) (by simp; omega)).trans K1.out), alloc_at rfl,
      by
        rw [← hm]
        exact (hma.both (w' := W2) (Q := fun b => g + 2 ≤ b ∧ b < W2.heap.size + 1) (fun _ _ _ => rfl) (fun k hk hk2 => ⟨by omega, by omega⟩)).below (balloc (bref W2) _), hs2.alloc _, grown_trans (grown_trans HGR.out hg2) (grown_below (balloc (bref W2) _))⟩)
  have HMO := Lib.hid hmo
  rw [hm] at hm1 hmn ⊢
  clear hm hma hmo hs2 hg2 HS1 K0 K1 HGR
  go_upto_region 2 with fail
  have hzz : (W2.alloc (.cells #[.slice Av m cv] 27)).heap.size = W2.heap.size + 1 := alloc_sz _ _
  generalize (W2.alloc (.cells #[.slice Av m cv] 27)) = W3 at *
  generalize W2.heap.size = cb at *
  go_wp2_with fail
  refine (TN_run _ sb _ (by omega) (by omega) HP.out.tape).mono ?_
  rintro e W4 ⟨r, hr0, hr1, rfl, hs4, hg4⟩
  have HP4 := Lib.hid (HP.out.grow (by omega) (by omega) hs4 hg4)
  have hz34 := hg4.size
  clear hs4 hg4 HP
  have c0 : W4.cell? ⟨cb, 0, none⟩ = some (.slice Av m cv) := cell_of_row _ _ 0 _ _ (0, 0) HP4.out.box
  have hr2 : r = 0 ∨ r = 1 := by omega
  rcases hr2 with rfl | rfl
  · have z0 : W4.cell? ⟨g, 0, none⟩ = some (.slice none 0 0) := cell_of_row _ _ 0 _ _ (0, 0) HP4.out.r0
    have z1 : W4.cell? ⟨g + 1, 0, none⟩ = some (.slice none 0 0) := cell_of_row _ _ 0 _ _ (0, 0) HP4.out.r1
    have zf0 : W4.frozen? ⟨g, 0, none⟩ = false := by simp [World.frozen?, HP4.out.r0]
    have zf1 : W4.frozen? ⟨g + 1, 0, none⟩ = false := by simp [World.frozen?, HP4.out.r1]
    have er0 := HP4.out.r0
    have er1 := HP4.out.r1
    go_wp2_with fail
    go_region
    have HG8 := Lib.hid (show w.grownBy (((W4.setCell ⟨g, 0, none⟩ (.slice Av m cv)).setCell ⟨g + 1, 0, none⟩ (.slice Av m cv)).drew) (some sb) from grown_trans (gset (gset (HP4.out.gr) (p := ⟨g, 0, none⟩) (by show w.heap.size ≤ g; rw [HG.out]; exact Nat.le_refl _) _) (p := ⟨g + 1, 0, none⟩) (by show w.heap.size ≤ g + 1; rw [HG.out]; omega) _) (grown_below (bdrew (bref _))))
    have HH8 := Lib.hid (show ∀ q, q ≠ g → q ≠ g + 1 → (((W4.setCell ⟨g, 0, none⟩ (.slice Av m cv)).setCell ⟨g + 1, 0, none⟩ (.slice Av m cv)).drew).heap[q]? = W4.heap[q]? from fun q h1 h2 => (Below.heap_setCell _ _ _ q h2).trans (Below.heap_setCell _ _ _ q h1))
    have hs0 : (((W4.setCell ⟨g, 0, none⟩ (.slice Av m cv)).setCell ⟨g + 1, 0, none⟩ (.slice Av m cv)).drew).heap[g]? = some (.cells #[(.slice Av m cv)] 27 (0, 0)) := by
      have e1 : (W4.setCell ⟨g, 0, none⟩ (.slice Av m cv)).heap[g]? = some (.cells #[(.slice Av m cv)] 27 (0, 0)) := by simp [World.setCell, Array.getElem?_modify, er0]
      exact (Below.heap_setCell _ _ _ g (by show g ≠ g + 1; omega)).trans e1
    have hs1 : (((W4.setCell ⟨g, 0, none⟩ (.slice Av m cv)).setCell ⟨g + 1, 0, none⟩ (.slice Av m cv)).drew).heap[g + 1]? = some (.cells #[(.slice Av m cv)] 27 (0, 0)) := by
      have e1 : (W4.setCell ⟨g, 0, none⟩ (.slice Av m cv)).heap[g + 1]? = some (.cells #[.slice none 0 0] 27 (0, 0)) := (Below.heap_setCell _ _ _ (g + 1) (by show g + 1 ≠ g; omega)).trans er1
      show ((W4.setCell ⟨g, 0, none⟩ (.slice Av m cv)).setCell ⟨g + 1, 0, none⟩ (.slice Av m cv)).heap[g + 1]? = _
      simp [World.setCell, Array.getElem?_modify, er0, er1]
    have HTP8 := Lib.hid (show TapeOk (((W4.setCell ⟨g, 0, none⟩ (.slice Av m cv)).setCell ⟨g + 1, 0, none⟩ (.slice Av m cv)).drew) sb from (TapeOk.setCell (TapeOk.setCell (HP4.out.tape) (p := ⟨g, 0, none⟩) (by show sb < g; omega) _) (p := ⟨g + 1, 0, none⟩) (by show sb < g + 1; omega) _).drew)
    generalize (((W4.setCell ⟨g, 0, none⟩ (.slice Av m cv)).setCell ⟨g + 1, 0, none⟩ (.slice Av m cv)).drew) = W8 at *
    have y0 : W8.cell? ⟨g, 0, none⟩ = some ((.slice Av m cv)) := cell_of_row _ _ 0 _ _ (0, 0) hs0
    have y1 : W8.cell? ⟨g + 1, 0, none⟩ = some ((.slice Av m cv)) := cell_of_row _ _ 0 _ _ (0, 0) hs1
    have HY0 := Lib.hid y0
    have HY1 := Lib.hid y1
    clear hs0 hs1 y0 y1
    go_wp2_with fail
    have y0 := HY0.out
    have y1 := HY1.out
    have hML := HML.out
    refine bodyPost_ret (v := .tuple #[.agg #[.slice Av m cv], .agg #[.slice Av m cv]]) ?_ rfl ⟨_, _, ms, ms, rfl, PairM.same (by omega) (D3.ok_up HMO.out), by omega, ?_, ?_, HTP8.out, HG8.out⟩
    · simp [results, Tryz.results13, go_sem, y0, y1]
    all_goals
      have hG := HG.out
      refine (HP4.out.mems.both (w' := W8) (fun q hq hP => HH8.out q ?_ ?_) (fun q _ hP => by show w.heap.size ≤ q; omega)).up
      · have := hP.1; omega
      · have := hP.1; omega
  · obtain ⟨i1, hi1, hq0, hq1, hq2⟩ := info_parts infoLists
    obtain ⟨i3, hi3, hy0, hy1, hy2⟩ := info_parts infoTrust
    have HGW3 := Lib.hid HP4.out.gr
    have HZ3 := Lib.hid (show cb + 1 ≤ W4.heap.size from Nat.le_trans (by omega) hz34)
    go_wp2_with fail
    go_loopw [7, 27] (fun u t W => ∃ (k : Nat) (lv : Value) (tss : List (List Tree)), k ≤ m ∧ u = lv ∧ t = .int .i64 (k : Int) ∧ Hid (PairW w sb g cb (cb + 1) (.slice Av m cv) ms W) ∧ Hid (LRow (fun b => g + 2 ≤ b) W4.heap.size W lv tss) ∧ Hid (tss.length = k ∧ (∀ u ∈ tss, u.length ≤ 3) ∧ (∀ u ∈ tss, ∀ T ∈ u, WF m 2 T)) ∧ Hid (W4.grownBy W (some sb))) (fun _ t _ => m - (intOf t).toNat)
    case atStart => exact ⟨0, _, [], by omega, rfl, rfl, HP4, Lib.hid (LRow.nil _ _ _), Lib.hid ⟨rfl, fun _ h => absurd h (by simp), fun _ h => absurd h (by simp)⟩, Lib.hid (World.grownBy.refl _ _)⟩
    case round =>
      obtain ⟨k, lv, tss, hk, rfl, rfl, hPW, hRow, hTs, hGr⟩ := hrel
      have hzr : cb + 1 ≤ wr.heap.size := by have := hGr.out.size; have := HZ3.out; omega
      obtain ⟨wo, rfl⟩ : ∃ wo : World, wo = wr := ⟨_, rfl⟩
      by_cases hlt : k < m
      · obtain ⟨⟨dc, T⟩, hx⟩ : ∃ x, ms[k]? = some x := ⟨_, List.getElem?_eq_getElem (by rw [HML.out]; exact hlt)⟩
        obtain ⟨A', c', hA', hL⟩ := hPW.out.mems
        injection hA' with q1 q2 q3
        subst q1
        obtain ⟨b, off, y0, y1, y2, rfl, hPb, e0, e1, e2, e3, hT⟩ := hL k _ hx
        obtain ⟨t', A1, n1, c1, A2, n2, c2, rfl, rfl, rfl⟩ := hT.form
        have HWT := Lib.hid (show dc = true → WF m 2 T from by
          have h := (HMO.out _ (List.mem_of_getElem? hx)).1
          rw [HML.out] at h
          exact h)
        have hba := balloc (bref wo) (.cells #[.bool dc, .int .i64 t', .slice A1 n1 c1, .slice A2 n2 c2] 75)
        have HBX := Lib.hid (show (wo.alloc (.cells #[.bool dc, .int .i64 t', .slice A1 n1 c1, .slice A2 n2 c2] 75)).heap[wo.heap.size]? = some (.cells #[.bool dc, .int .i64 t', .slice A1 n1 c1, .slice A2 n2 c2] 75 (0, 0)) from alloc_at rfl)
        have HZX := Lib.hid (alloc_sz wo (.cells #[.bool dc, .int .i64 t', .slice A1 n1 c1, .slice A2 n2 c2] 75))
        have HTX := Lib.hid (hT.below hba)
        have HPX := Lib.hid (hPW.out.below (by omega) (by omega) hba)
        have HRX := Lib.hid (hRow.out.keep (W' := wo.alloc (.cells #[.bool dc, .int .i64 t', .slice A1 n1 c1, .slice A2 n2 c2] 75)) (fun q _ hq => hba.block q hq))
        have HGX := Lib.hid (grown_trans hGr.out (grown_below hba))
        have HOX := Lib.hid (hRow.out.own)
        clear hL hT hx hba hPW hRow hGr q2 q3
        go_upto_region 9 with fail
        generalize (wo.alloc (.cells #[.bool dc, .int .i64 t', .slice A1 n1 c1, .slice A2 n2 c2] 75)) = WX at *
        generalize hX : wo.heap.size = X at *
        have HX := Lib.hid hX
        clear e0 e1 e2 e3 hX
        have b0 : WX.cell? ⟨X, 0, none⟩ = some (.bool dc) := cell_of_row _ _ 0 _ _ (0, 0) HBX.out
        cases dc
        · obtain ⟨W6, rfl⟩ : ∃ W6 : World, W6 = WX := ⟨_, rfl⟩
          have HP6 := HPX
          have HR6 := HRX
          have HG6 := HGX
          have HL6 := Lib.hid (show ListT (fun b => g + 2 ≤ b ∧ u7.ownBlock ≠ some b) 2 W6 (.slice none 0 0) [] from ⟨none, 0, rfl, fun k T h => by simp at h⟩)
          have HT3 := Lib.hid (show ([] : List Tree).length ≤ 3 ∧ ∀ T ∈ ([] : List Tree), WF m 2 T from ⟨by simp, fun T h => absurd h (by simp)⟩)
          obtain ⟨us, hus, hul⟩ := HR6.out
          have hcn : us.length = tss.length := by have := hus.1; omega
          have HCSA := Lib.hid (hus.alloc (.cells #[.slice none 0 0] 71))
          have HNEW := Lib.hid (cell_one_new W6 (.slice none 0 0) 71)
          have HBA := Lib.hid (balloc (bref W6) (.cells #[.slice none 0 0] 71))
          have HSZ := Lib.hid (alloc_sz W6 (.cells #[.slice none 0 0] 71))
          have HUL := Lib.hid hul
          have HTL := Lib.hid hTs.out.1
          have hsz6 : cb + 1 ≤ W6.heap.size := by have := HG6.out.size; have := HZ3.out; omega
          have hsz7 := HG6.out.size
          have hz3x := HZ3.out
          obtain ⟨nl, hnl⟩ : ∃ nl, tss.length = nl := ⟨_, rfl⟩
          rw [hnl] at HCSA hcn
          have HNL := Lib.hid hnl
          clear hus hul hnl
          go_wp2_with (at_builtin; refine wpList_append_lies _ rfl _ _ 70 rfl W4.heap.size 71 i1 (.slice none 0 0) 1 24 Tryz.underlying70 hi1 hq0 hq1 hq2 rfl (by decide) _ nl us rfl (by exact HCSA.out) ⟨_, 0, none⟩ 1 1 [.slice none 0 0] rfl rfl (by exact HNEW.out) (by intro u hu; simp at hu; subst hu; rfl) (by omega) (by have := HTL.out; have := HNL.out; unfold maxLen; omega) (by have := HTL.out; have := HNL.out; omega) (by have := HSZ.out; omega) _ rfl ?_; intro g4 cap4 W7 hown4 hgrow4 hat4 hlt4)
          have hgB : (W6.alloc (.cells #[.slice none 0 0] 71)).grownBy W7 u7.ownBlock := ⟨hgrow4.os, hgrow4.tape, hgrow4.output, hgrow4.size, hgrow4.block⟩
          have hLW := HNL.out
          subst hLW
          have hrow5 := LRow.append (Q := fun b => g + 2 ≤ b) (ts := []) (WA := W6.alloc (.cells #[.slice none 0 0] 71)) (fun k u S e1 e2 => (HUL.out k u S e1 e2).below HBA.out) hcn (HL6.out.below HBA.out) hown4 hgB hat4
          have HROW5 := Lib.hid hrow5
          have HG7 := Lib.hid (gown (grown_trans HG6.out (grown_below HBA.out)) hgB (fun q hq => by have := (HR6.out.own q hq).1; have := HZ3.out; omega))
          have HP7 := Lib.hid ((HP6.out.below (by omega) (by omega) HBA.out).far (W' := W7) (fun q hq => hgB.block q (by have := HSZ.out; omega) (fun e => by have := (HR6.out.own q e.symm).1; omega)) (by omega) (by omega) (by omega) (grown_trans HGW3.out HG7.out))
          have HTS7 := Lib.hid (show (tss ++ [[]]).length = k + 1 ∧ (∀ u ∈ tss ++ [[]], u.length ≤ 3) ∧ (∀ u ∈ tss ++ [[]], ∀ T ∈ u, WF m 2 T) from by
            refine ⟨by rw [List.length_append, hTs.out.1]; rfl, fun u hu => ?_, fun u hu => ?_⟩
            · rcases List.mem_append.1 hu with h | h
              · exact hTs.out.2.1 u h
              · rw [List.mem_singleton.1 h]; exact HT3.out.1
            · rcases List.mem_append.1 hu with h | h
              · exact hTs.out.2.2 u h
              · rw [List.mem_singleton.1 h]; exact HT3.out.2)
          clear hown4 hgrow4 hat4 hlt4 hgB hrow5
          go_roundw
          case rel => exact ⟨k + 1, _, _, by omega, rfl, by go_num, HP7, HROW5, HTS7, HG7⟩
          case measure => simp [intOf]; omega
        · have b1 : WX.cell? ⟨X, 1, none⟩ = some (.int .i64 t') := cell_of_row _ _ 1 _ _ (0, 0) HBX.out
          have b2 : WX.cell? ⟨X, 2, none⟩ = some (.slice A1 n1 c1) := cell_of_row _ _ 2 _ _ (0, 0) HBX.out
          have b3 : WX.cell? ⟨X, 3, none⟩ = some (.slice A2 n2 c2) := cell_of_row _ _ 3 _ _ (0, 0) HBX.out
          have HNEW0 := Lib.hid (cell_three_new WX (.int .i64 t') (.slice A1 n1 c1) (.slice A2 n2 c2) 73)
          have HBA0 := Lib.hid (balloc (bref WX) (.cells #[.int .i64 t', .slice A1 n1 c1, .slice A2 n2 c2] 73))
          have HSZ0 := Lib.hid (alloc_sz WX (.cells #[.int .i64 t', .slice A1 n1 c1, .slice A2 n2 c2] 73))
          have hzx := HZX.out
          go_upto_region 11 with (go_loud (at_builtin; refine wpList_append_lies _ rfl _ _ 71 rfl (X + 1) 73 i3 (.agg #[.int .i64 0, .slice none 0 0, .slice none 0 0]) 3 56 Tryz.underlying71 hi3 hy0 hy1 hy2 rfl (by decide) _ 0 [] rfl (World.ownsRow_nil _ _ _ _) ⟨_, 0, none⟩ 1 1 [.int .i64 t', .slice A1 n1 c1, .slice A2 n2 c2] rfl rfl (by have h := HNEW0.out; rw [HZX.out] at h; exact h) (by intro u hu; simp at hu; rcases hu with rfl | rfl | rfl <;> rfl) (by omega) (by unfold maxLen; omega) (by omega) (by have := HSZ0.out; omega) _ rfl ?_; intro g4 cap4 W5 hown4 hgrow4 hat4 hlt4))
          have hgB : (WX.alloc (.cells #[.int .i64 t', .slice A1 n1 c1, .slice A2 n2 c2] 73)).grownBy W5 (Value.slice none 0 0).ownBlock := ⟨hgrow4.os, hgrow4.tape, hgrow4.output, hgrow4.size, hgrow4.block⟩
          have HGT5 := Lib.hid (GT.append (Q := fun b => (g + 2 ≤ b ∧ b < cb + 1) ∨ X ≤ b) (B := X + 1) (d := 2) (ts := []) (T := T) (WA := WX.alloc (.cells #[.int .i64 t', .slice A1 n1 c1, .slice A2 n2 c2] 73)) (lv := .slice none 0 0) (cs := []) (fun k T h => by simp at h) rfl ((HTX.out.below HBA0.out).imp (fun q _ hq => ⟨.inl hq, by simp [Value.ownBlock]⟩)) hown4 hgB hat4)
          have HGX5 := Lib.hid (show WX.grownBy W5 (some sb) from gown (grown_below HBA0.out) hgB (fun q hq => by simp [Value.ownBlock] at hq))
          have HT5 := Lib.hid (show TapeOk W5 sb from HPX.out.tape.keepLow (fun q hq => (hgB.block q (by have := HSZ0.out; omega) (by simp [Value.ownBlock])).trans (HBA0.out.block q (by omega))))
          clear hown4 hgrow4 hat4 hlt4 hgB b0 b1 b2 b3 HNEW0 HSZ0 HBA0
          go_wp2_with fail
          refine (TN_run _ sb _ (by omega) (by omega) HT5.out).mono ?_
          rintro e W6 ⟨r, hr2, hr3, rfl, hs6, hg6⟩
          have HGX6 := Lib.hid (grown_trans HGX5.out hg6)
          have HT6 := Lib.hid hs6
          have HGT6 := Lib.hid (HGT5.out.keep (W' := W6) (fun q hq hl => hg6.block q hl (by simp only [ne_eq, Option.some.injEq]; rcases hq with (hq | hq) | hq <;> omega)))
          obtain ⟨i0, rfl⟩ : ∃ i0 : Nat, r = (i0 : Int) := ⟨r.toNat, by omega⟩
          have HWF0 := Lib.hid (show ∀ U ∈ ([] ++ [T] : List Tree), WF m 2 U from fun U hU => by rw [List.mem_singleton.1 hU]; first | exact HWT.out rfl | exact HWT.out trivial)
          clear hs6 hg6 HT5 HGX5 HGT5
          go_wp2_with fail
          go_loopw [10, 11] (fun u t W => ∃ (i : Nat) (xv : Value) (ts : List Tree), u = xv ∧ t = .int .i64 (i : Int) ∧ Hid (ts.length + i ≤ 3) ∧ Hid (GT (fun b => (g + 2 ≤ b ∧ b < cb + 1) ∨ X ≤ b) (X + 1) 2 W xv ts) ∧ Hid (∀ U ∈ ts, WF m 2 U) ∧ Hid (TapeOk W sb) ∧ Hid (WX.grownBy W (some sb))) (fun _ t _ => (intOf t).toNat)
          case atStart => exact ⟨i0, _, [] ++ [T], rfl, rfl, Lib.hid (by simp; omega), HGT6, HWF0, HT6, HGX6⟩
          case round =>
            obtain ⟨i, xv, ts, hxv, rfl, hcnt, hGT, hwf, hTp, hGx⟩ := hrel
            subst hxv
            have hzw : X + 1 ≤ wr.heap.size := by have := hGx.out.size; have := HZX.out; omega
            have hbx := (hGx.out.block X (by have := HZX.out; omega) (by simp; omega)).trans HBX.out
            have hpr := HPX.out.grow (by omega) (by omega) hTp.out hGx.out
            have c0 : wr.cell? ⟨cb, 0, none⟩ = some (.slice (some ⟨b, off, none⟩) m cv) := cell_of_row _ _ 0 _ _ (0, 0) hpr.box
            have HPR := Lib.hid hpr
            have HTR := Lib.hid (HTX.out.keep (w' := wr) (fun q hq hP => hGx.out.block q hq (by have := hP.1; simp; omega)))
            have HOW := Lib.hid (hGT.out.own)
            by_cases hi0 : 0 < i
            · have b1 : wr.cell? ⟨X, 1, none⟩ = some (.int .i64 t') := cell_of_row _ _ 1 _ _ (0, 0) hbx
              have b2 : wr.cell? ⟨X, 2, none⟩ = some (.slice A1 n1 c1) := cell_of_row _ _ 2 _ _ (0, 0) hbx
              have b3 : wr.cell? ⟨X, 3, none⟩ = some (.slice A2 n2 c2) := cell_of_row _ _ 3 _ _ (0, 0) hbx
              clear hbx hpr
              obtain ⟨wp, rfl⟩ : ∃ wp : World, wp = wr := ⟨_, rfl⟩
              go_wp2_with fail
              refine (near_run (fun q => g + 2 ≤ q ∧ q < cb + 1) sb m hm1 (by omega) T _ _ _ wp hTp.out (by rintro q ⟨h1, h2⟩; omega) HTR.out (by first | exact HWT.out rfl | exact HWT.out trivial)).mono ?_
              rintro e Wn ⟨z0, z1, z2, U, rfl, hU, hWU, hTn, hGn⟩
              obtain ⟨t2, B1, k1, d1, B2, k2, d2, rfl, rfl, rfl⟩ := hU.form
              have hzn := hGn.size
              have hGTn := hGT.out.keep (W' := Wn) (fun q hq hl => hGn.block q hl (by simp only [ne_eq, Option.some.injEq]; rcases hq with (hq | hq) | hq <;> omega))
              obtain ⟨cs, hcs, hcl⟩ := hGTn
              have hcn : cs.length = ts.length * 3 := by have := hcs.1; omega
              obtain ⟨nt, hnt⟩ : ∃ nt, ts.length = nt := ⟨_, rfl⟩
              have HCSA := Lib.hid (hcs.alloc (.cells #[.int .i64 t2, .slice B1 k1 d1, .slice B2 k2 d2] 73))
              rw [hnt] at HCSA
              have HNT := Lib.hid hnt
              have HNEW := Lib.hid (cell_three_new Wn (.int .i64 t2) (.slice B1 k1 d1) (.slice B2 k2 d2) 73)
              have HBA := Lib.hid (balloc (bref Wn) (.cells #[.int .i64 t2, .slice B1 k1 d1, .slice B2 k2 d2] 73))
              have HSZ := Lib.hid (alloc_sz Wn (.cells #[.int .i64 t2, .slice B1 k1 d1, .slice B2 k2 d2] 73))
              have HCL := Lib.hid hcl
              have HGN := Lib.hid (grown_trans hGx.out hGn)
              have HUU := Lib.hid (show TAt (fun q => ((g + 2 ≤ q ∧ q < cb + 1) ∨ X ≤ q) ∧ u10.ownBlock ≠ some q) 2 Wn (.int .i64 t2) (.slice B1 k1 d1) (.slice B2 k2 d2) U from
                hU.imp (fun q _ hq => by
                  rcases hq with hq | hq
                  · exact ⟨.inl hq, fun e => by have := (HOW.out q e).1; omega⟩
                  · exact ⟨.inr (by omega), fun e => by have := (HOW.out q e).2; omega⟩))
              have HWF1 := Lib.hid (show ∀ V ∈ ts ++ [U], WF m 2 V from fun V hV => by
                rcases List.mem_append.1 hV with h | h
                · exact hwf.out V h
                · rw [List.mem_singleton.1 h]; exact hWU)
              have HTN := Lib.hid hTn
              have hcx := hcnt.out
              rw [hnt] at hcx
              clear hcs hcl hU hTn hGn hnt b1 b2 b3 c0
              go_wp2_with (at_builtin; refine wpList_append_lies _ rfl _ _ 71 rfl (X + 1) 73 i3 (.agg #[.int .i64 0, .slice none 0 0, .slice none 0 0]) 3 56 Tryz.underlying71 hi3 hy0 hy1 hy2 rfl (by decide) _ nt cs rfl (by exact HCSA.out) ⟨_, 0, none⟩ 1 1 [.int .i64 t2, .slice B1 k1 d1, .slice B2 k2 d2] rfl rfl (by exact HNEW.out) (by intro u hu; simp at hu; rcases hu with rfl | rfl | rfl <;> rfl) (by omega) (by unfold maxLen; omega) (by omega) (by have := HSZ.out; omega) _ rfl ?_; intro g4 cap4 W5 hown4 hgrow4 hat4 hlt4)
              have hgB : (Wn.alloc (.cells #[.int .i64 t2, .slice B1 k1 d1, .slice B2 k2 d2] 73)).grownBy W5 u10.ownBlock := ⟨hgrow4.os, hgrow4.tape, hgrow4.output, hgrow4.size, hgrow4.block⟩
              have hNT := HNT.out
              subst hNT
              have HGT5 := Lib.hid (GT.append (Q := fun q => (g + 2 ≤ q ∧ q < cb + 1) ∨ X ≤ q) (B := X + 1) (d := 2) (ts := ts) (T := U) (WA := Wn.alloc (.cells #[.int .i64 t2, .slice B1 k1 d1, .slice B2 k2 d2] 73)) (fun k T h => by
                obtain ⟨x0, x1, x2, f0, f1, f2, f3⟩ := HCL.out k T h
                exact ⟨x0, x1, x2, f0, f1, f2, f3.below HBA.out⟩) hcn (HUU.out.below HBA.out) hown4 hgB hat4)
              have HGX5 := Lib.hid (show WX.grownBy W5 (some sb) from gown (grown_trans HGN.out (grown_below HBA.out)) hgB (fun q hq => by have := (HOW.out q hq).1; have := HZX.out; omega))
              have HT5 := Lib.hid (show TapeOk W5 sb from HTN.out.keepLow (fun q hq => (hgB.block q (by have := HSZ.out; omega) (fun e => by have := (HOW.out q e.symm).1; omega)).trans (HBA.out.block q (by omega))))
              have HC5 := Lib.hid (show (ts ++ [U]).length + (i - 1) ≤ 3 from by rw [List.length_append]; simp; omega)
              clear hown4 hgrow4 hat4 hlt4 hgB
              go_wp2_with fail
              go_roundw
              case rel => exact ⟨i - 1, _, ts ++ [U], rfl, by go_num, HC5, HGT5, HWF1, HT5, HGX5⟩
              case measure => simp [intOf]; omega
            · obtain rfl : i = 0 := by omega
              obtain ⟨W6, rfl⟩ : ∃ W6 : World, W6 = wr := ⟨_, rfl⟩
              have HP6 := HPR
              have HG6 := Lib.hid (grown_trans HGX.out hGx.out)
              have HR6 := Lib.hid (HRX.out.keep (W' := W6) (fun q hq hl => hGx.out.block q hl (by simp only [ne_eq, Option.some.injEq]; rcases hq with hq | hq <;> omega)))
              have HL6 := Lib.hid (show ListT (fun b => g + 2 ≤ b ∧ u7.ownBlock ≠ some b) 2 W6 u10 ts from hGT.out.list (fun q hq => by
                rcases hq with (hq | hq) | hq
                · exact ⟨by omega, fun e => by have := (HOX.out q e).1; have := HZ3.out; omega⟩
                · exact ⟨by omega, fun e => by have := (HOX.out q e).2; omega⟩
                · exact ⟨by omega, fun e => by have := (HOX.out q e).2; omega⟩))
              have HT3 := Lib.hid (show ts.length ≤ 3 ∧ ∀ T ∈ ts, WF m 2 T from ⟨by have := hcnt.out; omega, hwf.out⟩)
              clear hGT hbx hpr c0
              obtain ⟨us, hus, hul⟩ := HR6.out
              have hcn : us.length = tss.length := by have := hus.1; omega
              obtain ⟨Ax, cx, rfl⟩ := HL6.out.slice
              obtain ⟨nt, hnt⟩ : ∃ nt, ts.length = nt := ⟨_, rfl⟩
              rw [hnt] at HL6 ⊢
              have HNT := Lib.hid hnt
              clear hnt
              have HCSA := Lib.hid (hus.alloc (.cells #[.slice Ax nt cx] 71))
              have HNEW := Lib.hid (cell_one_new W6 (.slice Ax nt cx) 71)
              have HBA := Lib.hid (balloc (bref W6) (.cells #[.slice Ax nt cx] 71))
              have HSZ := Lib.hid (alloc_sz W6 (.cells #[.slice Ax nt cx] 71))
              have HUL := Lib.hid hul
              have HTL := Lib.hid hTs.out.1
              have hsz6 : cb + 1 ≤ W6.heap.size := by have := HG6.out.size; have := HZ3.out; omega
              have hsz7 := HG6.out.size
              have hz3x := HZ3.out
              obtain ⟨nl, hnl⟩ : ∃ nl, tss.length = nl := ⟨_, rfl⟩
              rw [hnl] at HCSA hcn
              have HNL := Lib.hid hnl
              clear hus hul hnl
              go_wp2_with (at_builtin; refine wpList_append_lies _ rfl _ _ 70 rfl W4.heap.size 71 i1 (.slice none 0 0) 1 24 Tryz.underlying70 hi1 hq0 hq1 hq2 rfl (by decide) _ nl us rfl (by exact HCSA.out) ⟨_, 0, none⟩ 1 1 [.slice Ax nt cx] rfl rfl (by exact HNEW.out) (by intro u hu; simp at hu; subst hu; rfl) (by omega) (by have := HTL.out; have := HNL.out; unfold maxLen; omega) (by have := HTL.out; have := HNL.out; omega) (by have := HSZ.out; omega) _ rfl ?_; intro g4 cap4 W7 hown4 hgrow4 hat4 hlt4)
              have hgB : (W6.alloc (.cells #[.slice Ax nt cx] 71)).grownBy W7 u7.ownBlock := ⟨hgrow4.os, hgrow4.tape, hgrow4.output, hgrow4.size, hgrow4.block⟩
              have hLW := HNL.out
              subst hLW
              have hNT := HNT.out
              subst hNT
              have hrow5 := LRow.append (Q := fun b => g + 2 ≤ b) (ts := ts) (WA := W6.alloc (.cells #[.slice Ax ts.length cx] 71)) (fun k u S e1 e2 => (HUL.out k u S e1 e2).below HBA.out) hcn (HL6.out.below HBA.out) hown4 hgB hat4
              have HROW5 := Lib.hid hrow5
              have HG7 := Lib.hid (gown (grown_trans HG6.out (grown_below HBA.out)) hgB (fun q hq => by have := (HR6.out.own q hq).1; have := HZ3.out; omega))
              have HP7 := Lib.hid ((HP6.out.below (by omega) (by omega) HBA.out).far (W' := W7) (fun q hq => hgB.block q (by have := HSZ.out; omega) (fun e => by have := (HR6.out.own q e.symm).1; omega)) (by omega) (by omega) (by omega) (grown_trans HGW3.out HG7.out))
              have HTS7 := Lib.hid (show (tss ++ [ts]).length = k + 1 ∧ (∀ u ∈ tss ++ [ts], u.length ≤ 3) ∧ (∀ u ∈ tss ++ [ts], ∀ T ∈ u, WF m 2 T) from by
                refine ⟨by rw [List.length_append, hTs.out.1]; rfl, fun u hu => ?_, fun u hu => ?_⟩
                · rcases List.mem_append.1 hu with h | h
                  · exact hTs.out.2.1 u h
                  · rw [List.mem_singleton.1 h]; exact HT3.out.1
                · rcases List.mem_append.1 hu with h | h
                  · exact hTs.out.2.2 u h
                  · rw [List.mem_singleton.1 h]; exact HT3.out.2)
              clear hown4 hgrow4 hat4 hlt4 hgB hrow5
              go_roundw
              case rel => exact ⟨k + 1, _, _, by omega, rfl, by go_num, HP7, HROW5, HTS7, HG7⟩
              case measure => simp [intOf]; omega
      · have hkm : m = k := by omega
        subst hkm
        have HLL := Lib.hid (hRow.out.list (P := fun b => g + 2 ≤ b) (fun b h => by
          rcases h with h | h
          · exact h
          · have := HZ3.out; show g + 2 ≤ b; omega))
        have HPW := hPW
        have HGR := hGr
        clear hPW hRow hGr c0
        have hg0 : g + 2 ≤ wo.heap.size := by omega
        go_wp2_with fail
        refine (low_run (fun b => g + 2 ≤ b) tss m _ wo hTs.out.1 (by omega) hTs.out.2.1 hTs.out.2.2 HLL.out).mono ?_
        rintro e Wl ⟨vl, ls, rfl, hml, hjl, hbl⟩
        obtain ⟨Al, cl, rfl⟩ := hml.slice
        rw [hjl.1]
        have hml2 := hml
        rw [hjl.1] at hml2
        have hzl := hbl.size
        have hba := balloc (bref Wl) (.cells #[.slice Al m cl] 27)
        have HJL := Lib.hid hjl
        have HBL := Lib.hid (bstep hbl hba)
        have HKL := Lib.hid (show (Wl.alloc (.cells #[.slice Al m cl] 27)).heap[Wl.heap.size]? = some (.cells #[.slice Al m cl] 27 (0, 0)) from alloc_at rfl)
        have HML2 := Lib.hid ((hml2.both (w' := Wl) (Q := fun b => g + 2 ≤ b) (fun _ _ _ => rfl) (fun q _ hq => by rcases hq with hq | hq <;> omega)).below hba)
        have HZL := Lib.hid (alloc_sz Wl (.cells #[.slice Al m cl] 27))
        clear hml hml2 hjl hbl hba
        go_upto_region 18 with fail
        generalize (Wl.alloc (.cells #[.slice Al m cl] 27)) = WL at *
        generalize Wl.heap.size = lb at *
        go_wp2_with fail
        refine (high_run (fun b => g + 2 ≤ b) tss m _ WL hTs.out.1 (by omega) hTs.out.2.1 hTs.out.2.2 (HLL.out.keep (fun q hq _ => HBL.out.block q hq))).mono ?_
        rintro e Wh ⟨vh, hs2, rfl, hmh, hjh, hbh⟩
        obtain ⟨Ah, ch, rfl⟩ := hmh.slice
        rw [hjh.1]
        have hmh2 := hmh
        rw [hjh.1] at hmh2
        have hzh := hbh.size
        have hba := balloc (bref Wh) (.cells #[.slice Ah m ch] 27)
        have HJH := Lib.hid hjh
        have HBH := Lib.hid (bstep hbh hba)
        have HKH := Lib.hid (show (Wh.alloc (.cells #[.slice Ah m ch] 27)).heap[Wh.heap.size]? = some (.cells #[.slice Ah m ch] 27 (0, 0)) from alloc_at rfl)
        have HMH2 := Lib.hid ((hmh2.both (w' := Wh) (Q := fun b => g + 2 ≤ b) (fun _ _ _ => rfl) (fun q _ hq => by have := HZL.out; rcases hq with hq | hq <;> omega)).below hba)
        clear hmh hmh2 hjh hbh hba
        go_upto_region 19 with fail
        generalize (Wh.alloc (.cells #[.slice Ah m ch] 27)) = WH at *
        have hp8 := HPW.out.grow (by omega) (by omega) (HPW.out.tape.below (bstep HBL.out HBH.out)) (grown_below (bstep HBL.out HBH.out))
        have er0 := hp8.r0
        have er1 := hp8.r1
        have d0 : WH.cell? ⟨lb, 0, none⟩ = some (.slice Al m cl) := cell_of_row _ _ 0 _ _ (0, 0) ((HBH.out.block lb (by have := HZL.out; omega)).trans HKL.out)
        have d1 : WH.cell? ⟨Wh.heap.size, 0, none⟩ = some (.slice Ah m ch) := cell_of_row _ _ 0 _ _ (0, 0) HKH.out
        have z0 : WH.cell? ⟨g, 0, none⟩ = some (.slice none 0 0) := cell_of_row _ _ 0 _ _ (0, 0) er0
        have z1 : WH.cell? ⟨g + 1, 0, none⟩ = some (.slice none 0 0) := cell_of_row _ _ 0 _ _ (0, 0) er1
        have zf0 : WH.frozen? ⟨g, 0, none⟩ = false := by simp [World.frozen?, er0]
        have zf1 : WH.frozen? ⟨g + 1, 0, none⟩ = false := by simp [World.frozen?, er1]
        have HP8 := Lib.hid hp8
        have hlg : g + 2 ≤ lb := by omega
        have hhg : g + 2 ≤ Wh.heap.size := by have := HZL.out; omega
        have HMLH := Lib.hid (HML2.out.below HBH.out)
        clear hp8
        go_wp2_with fail
        go_region
        have HG8 := Lib.hid (show w.grownBy (((WH.setCell ⟨g, 0, none⟩ (.slice Al m cl)).setCell ⟨g + 1, 0, none⟩ (.slice Ah m ch)).drew) (some sb) from grown_trans (gset (gset (HP8.out.gr) (p := ⟨g, 0, none⟩) (by show w.heap.size ≤ g; rw [HG.out]; exact Nat.le_refl _) _) (p := ⟨g + 1, 0, none⟩) (by show w.heap.size ≤ g + 1; rw [HG.out]; omega) _) (grown_below (bdrew (bref _))))
        have HH8 := Lib.hid (show ∀ q, q ≠ g → q ≠ g + 1 → (((WH.setCell ⟨g, 0, none⟩ (.slice Al m cl)).setCell ⟨g + 1, 0, none⟩ (.slice Ah m ch)).drew).heap[q]? = WH.heap[q]? from fun q h1 h2 => (Below.heap_setCell _ _ _ q h2).trans (Below.heap_setCell _ _ _ q h1))
        have hs0 : (((WH.setCell ⟨g, 0, none⟩ (.slice Al m cl)).setCell ⟨g + 1, 0, none⟩ (.slice Ah m ch)).drew).heap[g]? = some (.cells #[(.slice Al m cl)] 27 (0, 0)) := by
          have e1 : (WH.setCell ⟨g, 0, none⟩ (.slice Al m cl)).heap[g]? = some (.cells #[(.slice Al m cl)] 27 (0, 0)) := by simp [World.setCell, Array.getElem?_modify, er0]
          exact (Below.heap_setCell _ _ _ g (by show g ≠ g + 1; omega)).trans e1
        have hs1 : (((WH.setCell ⟨g, 0, none⟩ (.slice Al m cl)).setCell ⟨g + 1, 0, none⟩ (.slice Ah m ch)).drew).heap[g + 1]? = some (.cells #[(.slice Ah m ch)] 27 (0, 0)) := by
          have e1 : (WH.setCell ⟨g, 0, none⟩ (.slice Al m cl)).heap[g + 1]? = some (.cells #[.slice none 0 0] 27 (0, 0)) := (Below.heap_setCell _ _ _ (g + 1) (by show g + 1 ≠ g; omega)).trans er1
          show ((WH.setCell ⟨g, 0, none⟩ (.slice Al m cl)).setCell ⟨g + 1, 0, none⟩ (.slice Ah m ch)).heap[g + 1]? = _
          simp [World.setCell, Array.getElem?_modify, er0, er1]
        have HTP8 := Lib.hid (show TapeOk (((WH.setCell ⟨g, 0, none⟩ (.slice Al m cl)).setCell ⟨g + 1, 0, none⟩ (.slice Ah m ch)).drew) sb from (TapeOk.setCell (TapeOk.setCell (HP8.out.tape) (p := ⟨g, 0, none⟩) (by show sb < g; omega) _) (p := ⟨g + 1, 0, none⟩) (by show sb < g + 1; omega) _).drew)
        generalize (((WH.setCell ⟨g, 0, none⟩ (.slice Al m cl)).setCell ⟨g + 1, 0, none⟩ (.slice Ah m ch)).drew) = W8 at *
        have y0 : W8.cell? ⟨g, 0, none⟩ = some ((.slice Al m cl)) := cell_of_row _ _ 0 _ _ (0, 0) hs0
        have y1 : W8.cell? ⟨g + 1, 0, none⟩ = some ((.slice Ah m ch)) := cell_of_row _ _ 0 _ _ (0, 0) hs1
        have HY0 := Lib.hid y0
        have HY1 := Lib.hid y1
        clear hs0 hs1 y0 y1
        go_wp2_with fail
        have y0 := HY0.out
        have y1 := HY1.out
        refine bodyPost_ret (v := .tuple #[.agg #[.slice Al m cl], .agg #[.slice Ah m ch]]) ?_ rfl ⟨_, _, ls, hs2, rfl, PairM.joined (by omega) hTs.out.1 HJL.out HJH.out, by rw [HJL.out.1]; omega, ?_, ?_, HTP8.out, HG8.out⟩
        · simp [results, Tryz.results13, go_sem, y0, y1]
        · have hG := HG.out
          exact HMLH.out.both (w' := W8) (fun q hq hP => HH8.out q (by have := hP; omega) (by have := hP; omega)) (fun q _ hP => by show w.heap.size ≤ q; have := hP; omega)
        · have hG := HG.out
          exact HMH2.out.both (w' := W8) (fun q hq hP => HH8.out q (by have := hP; omega) (by have := hP; omega)) (fun q _ hP => by show w.heap.size ≤ q; have := hP; omega)

end Go.Proofs.YtacpfcckilnbfaaGreat

namespace Go.Proofs.YtacpfcckilnbfaaGreat
set_option linter.unusedVariables false
set_option linter.unusedSimpArgs false
open Go.RowKit

/-- A pair in two boxes, and the tape. -/
structure PMade (w : World) (g : Nat) (vl vh : Value) (ls hs : List Mem) (W : World) : Prop where
  tape : TapeOk W w.heap.size
  l : W.heap[g]? = some (.cells #[vl] 27 (0, 0))
  h : W.heap[g + 1]? = some (.cells #[vh] 27 (0, 0))
  ml : MemsAt (fun b => w.heap.size < b) 3 W vl ls
  mh : MemsAt (fun b => w.heap.size < b) 3 W vh hs
  low : w.heap.size < g
  below : Below w.heap.size w W

theorem PMade.lt {w W : World} {g : Nat} {vl vh : Value} {ls hs : List Mem} (h : PMade w g vl vh ls hs W) : g + 1 < W.heap.size := (Array.getElem?_eq_some_iff.1 h.h).1

theorem PMade.cl {w W : World} {g : Nat} {vl vh : Value} {ls hs : List Mem} (h : PMade w g vl vh ls hs W) : W.cell? ⟨g, 0, none⟩ = some vl := cell_of_row _ _ 0 _ _ (0, 0) h.l

theorem PMade.ch {w W : World} {g : Nat} {vl vh : Value} {ls hs : List Mem} (h : PMade w g vl vh ls hs W) : W.cell? ⟨g + 1, 0, none⟩ = some vh := cell_of_row _ _ 0 _ _ (0, 0) h.h

theorem PMade.bel {w W W' : World} {g : Nat} {vl vh : Value} {ls hs : List Mem} (h : PMade w g vl vh ls hs W) (hb : Below W.heap.size W W') : PMade w g vl vh ls hs W' :=
  ⟨h.tape.below hb, (hb.block _ (by have := h.lt; omega)).trans h.l, (hb.block _ h.lt).trans h.h, h.ml.below hb, h.mh.below hb, h.low, bstep h.below hb⟩

theorem PMade.grown {w W W' : World} {g : Nat} {vl vh : Value} {ls hs : List Mem} (h : PMade w g vl vh ls hs W) (hs2 : TapeOk W' w.heap.size) (hg : W.grownBy W' (some w.heap.size)) : PMade w g vl vh ls hs W' :=
  ⟨hs2, (hg.block _ (by have := h.lt; omega) (by have := h.low; simp; omega)).trans h.l, (hg.block _ h.lt (by have := h.low; simp; omega)).trans h.h,
    h.ml.both (fun q hq hP => hg.block q hq (by simp; omega)) (fun _ _ h => h), h.mh.both (fun q hq hP => hg.block q hq (by simp; omega)) (fun _ _ h => h), h.low, bgrownC h.below hg (Nat.le_refl _)⟩

end Go.Proofs.YtacpfcckilnbfaaGreat

namespace Go.Proofs.YtacpfcckilnbfaaGreat
set_option linter.unusedVariables false
set_option linter.unusedSimpArgs false
open Go.RowKit

structure SMade (w : World) (sb g : Nat) (v : Value) (ms : List Mem) (W : World) : Prop where
  tape : TapeOk W sb
  out : W.heap[g]? = some (.cells #[v] 27 (0, 0))
  mems : MemsAt (fun b => sb < b) 2 W v ms
  low : sb < g
  gr : w.grownBy W (some sb)

theorem SMade.lt {w W : World} {sb g : Nat} {v : Value} {ms : List Mem} (h : SMade w sb g v ms W) : g < W.heap.size := by
  rcases Nat.lt_or_ge g W.heap.size with h1 | h1
  · exact h1
  · have := h.out; rw [Array.getElem?_eq_none h1] at this; cases this

theorem SMade.cell {w W : World} {sb g : Nat} {v : Value} {ms : List Mem} (h : SMade w sb g v ms W) : W.cell? ⟨g, 0, none⟩ = some v := cell_of_row _ _ 0 _ _ (0, 0) h.out

theorem SMade.bel {w W W' : World} {sb g : Nat} {v : Value} {ms : List Mem} (h : SMade w sb g v ms W) (hb : Below W.heap.size W W') : SMade w sb g v ms W' :=
  ⟨h.tape.below hb, (hb.block _ h.lt).trans h.out, h.mems.below hb, h.low, grown_trans h.gr (grown_below hb)⟩

theorem SMade.grown {w W W' : World} {sb g : Nat} {v : Value} {ms : List Mem} (h : SMade w sb g v ms W) (hs : TapeOk W' sb) (hg : W.grownBy W' (some sb)) : SMade w sb g v ms W' :=
  ⟨hs, (hg.block _ h.lt (by have := h.low; simp; omega)).trans h.out, h.mems.both (fun q hq hP => hg.block q hq (by simp; omega)) (fun _ _ h => h), h.low, grown_trans h.gr hg⟩

theorem SMade.keeps {w W : World} {sb g : Nat} {v : Value} {ms : List Mem} (h : SMade w sb g v ms W) : W.cell? ⟨g, 0, none⟩ = some v ∧ SMade w sb g v ms W := ⟨h.cell, h⟩

theorem keepZ {w W W' : World} {sb g : Nat} {v : Value} {ms : List Mem} (h : W.cell? ⟨g, 0, none⟩ = some v ∧ SMade w sb g v ms W) (hb : Below W.heap.size W W') : W'.cell? ⟨g, 0, none⟩ = some v ∧ SMade w sb g v ms W' := (h.2.bel hb).keeps

theorem growZ {w W W' : World} {sb g : Nat} {v : Value} {ms : List Mem} (h : W.cell? ⟨g, 0, none⟩ = some v ∧ SMade w sb g v ms W) (hs : TapeOk W' sb) (hg : W.grownBy W' (some sb)) : W'.cell? ⟨g, 0, none⟩ = some v ∧ SMade w sb g v ms W' := (h.2.grown hs hg).keeps

theorem tapeZ {w W : World} {sb g : Nat} {v : Value} {ms : List Mem} (h : W.cell? ⟨g, 0, none⟩ = some v ∧ SMade w sb g v ms W) : TapeOk W sb := h.2.tape

theorem memsZ {w W : World} {sb g : Nat} {v : Value} {ms : List Mem} (h : W.cell? ⟨g, 0, none⟩ = some v ∧ SMade w sb g v ms W) : MemsAt (fun b => sb < b) 2 W v ms := h.2.mems

end Go.Proofs.YtacpfcckilnbfaaGreat

namespace Go.Proofs.YtacpfcckilnbfaaGreat
set_option linter.unusedVariables false
set_option linter.unusedSimpArgs false
open Go.RowKit

theorem or_mulN {L : Nat} (s q a : Nat) (hL : L ≤ 10) (hs : s < 2 ^ L) (hq : q < 2 ^ L) (ha : a < 2) : ∃ r : Nat, r < 2 ^ L ∧ bits .or .i64 (s : Int) (IntKind.i64.wrap ((q : Int) * (a : Int))) = (r : Int) := by
  have h10 : 2 ^ L ≤ 2 ^ 10 := Nat.pow_le_pow_right (by omega) hL
  rcases a with _ | a
  · refine ⟨s ||| 0, by simpa using hs, ?_⟩
    rw [show IntKind.i64.wrap ((q : Int) * ((0 : Nat) : Int)) = ((0 : Nat) : Int) by simp; rfl]
    exact i64_or_nat s 0 (by omega) (by omega)
  · obtain rfl : a = 0 := by omega
    refine ⟨s ||| q, Nat.or_lt_two_pow hs hq, ?_⟩
    rw [show IntKind.i64.wrap ((q : Int) * ((0 + 1 : Nat) : Int)) = ((q : Nat) : Int) by rw [IntWalk.i64_in _ (by push_cast; omega)]; push_cast; omega]
    exact i64_or_nat s q (by omega) (by omega)

set_option maxRecDepth 100000 in
set_option maxHeartbeats 4000000 in
theorem mkSetN_run (sb : Nat) (ms : List Mem) (v : Value) (w : World) (hl0 : 1 ≤ ms.length) (hl : ms.length ≤ 10) (hs : TapeOk w sb) (h : MemsAt (fun b => sb < b) 2 w v ms) :
    Calls Tryz.prog 14 #[.pointer (some ⟨sb, 0, none⟩), .agg #[v]] w fun e w' => ∃ r : Nat, e = .returned (.int .i64 (r : Int)) ∧ r < 2 ^ ms.length ∧ TapeOk w' sb ∧ w.grownBy w' (some sb) := by
  obtain ⟨A, c, rfl⟩ := h.slice
  obtain ⟨L, hL⟩ : ∃ L, ms.length = L := ⟨_, rfl⟩
  rw [hL] at h hl0 hl ⊢
  have hba := balloc (bref w) (.cells #[.slice A L c] 27)
  have HM := Lib.hid (show SMade w sb w.heap.size (.slice A L c) ms (w.alloc (.cells #[.slice A L c] 27)) from ⟨hs.alloc _, alloc_at rfl, h.below hba, hs.lt, grown_below hba⟩)
  have HL := Lib.hid hL
  have hpL : 2 ^ L ≤ 2 ^ 10 := Nat.pow_le_pow_right (by omega) hl
  have hpp : 1 ≤ 2 ^ L := Nat.one_le_pow _ _ (by omega)
  obtain ⟨N, hN⟩ : ∃ N, 2 ^ L = N := ⟨_, rfl⟩
  have HN := Lib.hid hN
  rw [hN] at hpL hpp ⊢
  clear hN
  clear h hs hba hL
  go_enter Tryz.func14, Tryz.ntmps14
  go_upto_region 1 with fail
  generalize w.alloc (.cells #[.slice A L c] 27) = W1 at *
  generalize w.heap.size = g at *
  have c0 := HM.out.cell
  go_upto_region 3 with fail
  have hp5 : ∀ j, j < 5 → (W1.alloc (.cells #[.int .i64 0, .int .i64 1, .int .i64 1, .int .i64 2, .int .i64 3] 3)).cell? ⟨W1.heap.size, j, none⟩ = some (.int .i64 (([0, 1, 1, 2, 3] : List Int).getD j 0)) := by
    intro j hj
    rw [cell_of_row _ _ j _ _ (0, 0) (heap_alloc_new _ _)]
    match j, hj with
    | 0, _ | 1, _ | 2, _ | 3, _ | 4, _ => rfl
  have HP5 := Lib.hid hp5
  have hsb : W1.heap.size ≠ sb := by have := HM.out.tape.lt; omega
  clear hp5 c0
  go_wp2_with fail
  refine (TPick_run _ sb W1.heap.size [0, 1, 1, 2, 3] 5 rfl (by omega) (by omega) HP5.out hsb (HM.out.tape.alloc _)).mono ?_
  rintro e W2 ⟨j, hj, rfl, hs1, hg1⟩
  obtain ⟨q, hq, hq3⟩ : ∃ q : Nat, ([0, 1, 1, 2, 3] : List Int).getD j 0 = (q : Int) ∧ q ≤ 3 := by
    match j, hj with
    | 0, _ => exact ⟨0, rfl, by omega⟩
    | 1, _ => exact ⟨1, rfl, by omega⟩
    | 2, _ => exact ⟨1, rfl, by omega⟩
    | 3, _ => exact ⟨2, rfl, by omega⟩
    | 4, _ => exact ⟨3, rfl, by omega⟩
  rw [hq]
  have H2 := Lib.hid ((HM.out.bel (balloc (bref W1) (.cells #[.int .i64 0, .int .i64 1, .int .i64 1, .int .i64 2, .int .i64 3] 3))).grown hs1 hg1)
  clear hq hj hs1 hg1 HP5 hsb
  go_wp2_with fail
  go_loopw [6, 7] (fun sv t W => ∃ (s q : Nat), sv = .int .i64 (s : Int) ∧ t = .int .i64 (q : Int) ∧ s < N ∧ q ≤ 3 ∧ Hid (SMade w sb g (.slice A L c) ms W)) (fun _ t _ => (intOf t).toNat)
  case atStart => exact ⟨0, q, rfl, rfl, by omega, hq3, H2⟩
  case round =>
    obtain ⟨s, q, rfl, rfl, hs, hq, hM⟩ := hrel
    by_cases hpos : 0 < q
    · have hqi : (0 : Int) < (q : Int) := by omega
      go_wp2_with fail
      refine (TN_run _ sb _ (by omega) (by omega) hM.out.tape).mono ?_
      rintro e W3 ⟨r, hr0, hr1, rfl, hs3, hg3⟩
      obtain ⟨K, rfl⟩ := Int.eq_ofNat_of_zero_le hr0
      have H3 := Lib.hid (hM.out.grown hs3 hg3)
      have HOR := Lib.hid (shl_or s K (by omega) (by omega))
      have hso : s ||| 2 ^ K < N := by rw [← HN.out]; exact Nat.or_lt_two_pow (by rw [HN.out]; exact hs) (Nat.pow_lt_pow_right (by omega) (by omega))
      have hk0 : (0 : Int) ≤ (K : Int) := by omega
      have hk64 : (K : Int) < 64 := by omega
      clear hs3 hg3 hM
      go_wp2_with fail
      rw [HOR.out]
      go_roundw
      case rel => exact ⟨s ||| 2 ^ K, q - 1, rfl, by go_num, hso, by omega, H3⟩
      case measure => simp [intOf]; omega
    · obtain rfl : q = 0 := by omega
      clear hpos
      go_upto_region 7 with fail
      have hp := pow11' L (by omega)
      rw [HN.out] at hp
      have hw1 : IntKind.i64.wrap ((N : Int) - 1) = ((N - 1 : Nat) : Int) := (IntWalk.i64_in _ (by omega)).trans (by omega)
      have hdl := declS_lt ms ms.length (by rw [HL.out]; exact hl)
      have hand := andNot_nat (N - 1) (declS ms ms.length) (by omega) hdl
      have HQL := Lib.hid (show (N - 1) ^^^ ((N - 1) &&& declS ms ms.length) < N by rw [← HN.out]; exact Nat.xor_lt_two_pow (by rw [HN.out]; omega) (Nat.lt_of_le_of_lt Nat.and_le_left (by rw [HN.out]; omega)))
      obtain ⟨D, hD⟩ : ∃ D, declS ms ms.length = D := ⟨_, rfl⟩
      have HD := Lib.hid hD
      rw [hD] at hand HQL
      generalize (N - 1) ^^^ ((N - 1) &&& D) = Q at *
      generalize N - 1 = n1 at *
      have HLL := Lib.hid (show ms.length ≤ 10 by rw [HL.out]; exact hl)
      clear hD hdl
      have hS := Lib.hid (hM.out.bel ⟨rfl, rfl, rfl, Nat.le_refl _, fun _ _ => rfl⟩ : SMade w sb g (.slice A L c) ms wr.drew).keeps
      go_region_held3 (fun W => W.cell? ⟨g, 0, none⟩ = some (.slice A L c) ∧ SMade w sb g (.slice A L c) ms W) (first | exact hS.out | exact hSK | exact keepZ (by assumption) hbK | go_keep)
        (first
          | (go_at_call 21; refine (TN_run _ _ _ (by omega) (by omega) (by exact tapeZ (by assumption))).mono ?_; rintro e WK ⟨r, hr0, hr1, rfl, hsK, hgK⟩; obtain ⟨a, rfl⟩ := Int.eq_ofNat_of_zero_le hr0; have hSK := growZ (by assumption) hsK hgK)
          | (go_at_call 20; refine (rdeclared_run _ 2 ms _ _ HLL.out (by exact memsZ (by assumption))).mono ?_; rintro e WK ⟨rfl, hbK⟩; rw [HD.out]; have hSK := keepZ (by assumption) hbK))
      all_goals
        obtain ⟨R, hR, hRe⟩ := or_mulN (L := L) s Q a hl (by rw [HN.out]; exact hs) (by rw [HN.out]; exact HQL.out) (by omega)
        rw [HN.out] at hR
        have HZ := Lib.hid (And.intro hR (And.intro hSK.2.tape hSK.2.gr))
        have HRE := Lib.hid hRe
        clear hRe hSK
        go_wp2_with fail
        go_ret
        exact ⟨R, by first | rfl | (rw [HRE.out]; rfl), HZ.out⟩

end Go.Proofs.YtacpfcckilnbfaaGreat

namespace Go.Proofs.YtacpfcckilnbfaaGreat
set_option linter.unusedVariables false
set_option linter.unusedSimpArgs false

/-- All dispensable sets that contain ill. -/
def AllL (f g : Nat → Nat → Bool) (D n ill : Nat) (l : List Nat) : Prop := ∀ t, t ∈ l ↔ t < 2 ^ n ∧ Sub ill t ∧ DispB f g D n t

def bfold (n : Nat) (l : List Nat) : Nat := l.foldl (fun a b => a &&& b) (2 ^ n - 1)

theorem fold_bit : ∀ (l : List Nat) (s k : Nat), (l.foldl (fun a b => a &&& b) s).testBit k = true ↔ s.testBit k = true ∧ ∀ x ∈ l, x.testBit k = true
  | [], s, k => by simp
  | x :: l, s, k => by
    rw [List.foldl_cons, fold_bit l, Nat.testBit_and, Bool.and_eq_true]
    simp [and_assoc]

theorem bf_bit {n k : Nat} {l : List Nat} : (bfold n l).testBit k = true ↔ k < n ∧ ∀ x ∈ l, x.testBit k = true := by
  unfold bfold
  rw [fold_bit, Nat.testBit_two_pow_sub_one, decide_eq_true_iff]

theorem bf_lt (n : Nat) (l : List Nat) : bfold n l < 2 ^ n := Nat.lt_pow_two_of_testBit _ (fun k hk => by
  cases h : (bfold n l).testBit k
  · rfl
  · have := (bf_bit.1 h).1; omega)

theorem bf_sub {n x : Nat} {l : List Nat} (h : x ∈ l) : Sub (bfold n l) x := fun k hk => (bf_bit.1 hk).2 x h

theorem bf_mem {f g : Nat → Nat → Bool} {D n ill : Nat} {l : List Nat} (P : PairF f g D n) (hil : ill < 2 ^ n) (hi : IntB f D ill) (h : AllL f g D n ill l) : bfold n l ∈ l := by
  have key : ∀ (m : List Nat) (s : Nat), s ∈ l → (∀ x ∈ m, x ∈ l) → m.foldl (fun a b => a &&& b) s ∈ l := by
    intro m
    induction m with
    | nil => intro s hs _; exact hs
    | cons x m ih =>
      intro s hs hm
      refine ih _ ?_ (fun y hy => hm y (by simp [hy]))
      have h1 := (h s).1 hs
      have h2 := (h x).1 (hm x (by simp))
      refine (h _).2 ⟨Nat.lt_of_le_of_lt Nat.and_le_left h1.1, fun k hk => ?_, disp_meets P h1.1 h2.1 hil h1.2.1 h2.2.1 hi h1.2.2 h2.2.2⟩
      rw [Nat.testBit_and, h1.2.1 k hk, h2.2.1 k hk]; rfl
  refine key l _ ((h _).2 ⟨by have := Nat.two_pow_pos n; omega, fun k hk => ?_, disp_all P⟩) (fun x hx => hx)
  rw [Nat.testBit_two_pow_sub_one, decide_eq_true (lt_bit hil hk)]

theorem bf_ill {f g : Nat → Nat → Bool} {D n ill : Nat} {l : List Nat} (hil : ill < 2 ^ n) (h : AllL f g D n ill l) : Sub ill (bfold n l) := fun k hk => bf_bit.2 ⟨lt_bit hil hk, fun x hx => ((h x).1 hx).2.1 k hk⟩

end Go.Proofs.YtacpfcckilnbfaaGreat

namespace Go.Proofs.YtacpfcckilnbfaaGreat
set_option linter.unusedVariables false
set_option linter.unusedSimpArgs false
open Go.RowKit

/-- Nobody outside of s is blocked by it. -/
def CClosed (d : Nat) (ms : List Mem) (s : Nat) : Prop := ∀ k, k < ms.length → s.testBit k = false → blkM d ms s k = false

/-- The nodes of l follow, one after the other, from s on, and lead to r. -/
def CasR (d : Nat) (ms : List Mem) : Nat → List Int → Nat → Prop
  | s, [], r => r = s
  | s, x :: l, r => ∃ k : Nat, x = (k : Int) ∧ k < ms.length ∧ s.testBit k = false ∧ blkM d ms s k = true ∧ CasR d ms (s ||| 2 ^ k) l r

theorem CasR.snoc {d : Nat} {ms : List Mem} : ∀ (l : List Int) (s r k : Nat), CasR d ms s l r → k < ms.length → r.testBit k = false → blkM d ms r k = true → CasR d ms s (l ++ [(k : Int)]) (r ||| 2 ^ k)
  | [], s, r, k, h, hk, hb, hu => by
    obtain rfl : r = s := h
    exact ⟨k, rfl, hk, hb, hu, rfl⟩
  | x :: l, s, r, k, h, hk, hb, hu => by
    obtain ⟨j, e, hj, hbj, huj, h2⟩ := h
    exact ⟨j, e, hj, hbj, huj, CasR.snoc l _ r k h2 hk hb hu⟩

theorem CasR.none {d : Nat} {ms : List Mem} {s r : Nat} {l : List Int} (h : CasR d ms s l r) (hc : CClosed d ms s) : l = [] ∧ r = s := by
  cases l with
  | nil => exact ⟨rfl, h⟩
  | cons x l =>
    obtain ⟨k, _, hk, hb, hu, _⟩ := h
    rw [hc k hk hb] at hu; cases hu

/-- r is what a cascade from S has reached. -/
structure CasAt (d : Nat) (ms : List Mem) (S : Nat) (gs : List Int) (r : Nat) : Prop where
  lt : r < 1024
  len : gs.length + S ≤ r
  sub : Sub S r
  cas : CasR d ms S gs r
  least : ∀ Q, Q < 1024 → Sub S Q → CClosed d ms Q → Sub r Q

theorem CasAt.first {d : Nat} {ms : List Mem} {S : Nat} (h : S < 1024) : CasAt d ms S [] S := ⟨h, by simp, fun _ h => h, rfl, fun Q _ h _ => h⟩

theorem or_grows {r k : Nat} (hb : r.testBit k = false) : r + 1 ≤ r ||| 2 ^ k := by
  have h1 : r ≤ r ||| 2 ^ k := Nat.left_le_or
  rcases Nat.lt_or_ge r (r ||| 2 ^ k) with h2 | h2
  · exact h2
  · have e : r ||| 2 ^ k = r := by omega
    have h3 : (r ||| 2 ^ k).testBit k = true := by rw [Nat.testBit_or, Nat.testBit_two_pow_self, Bool.or_true]
    rw [e, hb] at h3; cases h3

theorem CasAt.step {d : Nat} {ms : List Mem} {S : Nat} {gs : List Int} {r k : Nat} (h : CasAt d ms S gs r) (hl : ms.length ≤ 10) (hk : k < ms.length) (hb : r.testBit k = false) (hu : blkM d ms r k = true) : CasAt d ms S (gs ++ [(k : Int)]) (r ||| 2 ^ k) := by
  have hg := or_grows hb
  have hp : 2 ^ k < 2 ^ 10 := Nat.pow_lt_pow_right (by omega) (by omega)
  refine ⟨Nat.or_lt_two_pow (n := 10) h.lt hp, by have := h.len; simp; omega, fun j hj => ?_, h.cas.snoc _ _ _ _ hk hb hu, fun Q hQ hQS hQc => fun j hj => ?_⟩
  · rw [Nat.testBit_or, h.sub j hj]; rfl
  · rw [Nat.testBit_or, Bool.or_eq_true] at hj
    have h1 := h.least Q hQ hQS hQc
    rcases hj with hj | hj
    · exact h1 j hj
    · rw [Nat.testBit_two_pow] at hj
      obtain rfl : k = j := by simpa using hj
      cases hq : Q.testBit k
      · have h2 := hQc k hk hq
        rw [blkM_sub hQ h1 hu] at h2; cases h2
      · rfl

/-- C is the cascade of S. -/
structure IsCas (d : Nat) (ms : List Mem) (S C : Nat) : Prop where
  sub : Sub S C
  closed : CClosed d ms C
  least : ∀ Q, Q < 1024 → Sub S Q → CClosed d ms Q → Sub C Q

theorem CasAt.is {d : Nat} {ms : List Mem} {S : Nat} {gs : List Int} {r : Nat} (h : CasAt d ms S gs r) (hc : CClosed d ms r) : IsCas d ms S r := ⟨h.sub, hc, h.least⟩

/-- What following says. -/
def FOk (d : Nat) (ms : List Mem) (s : Nat) (K : Int) : Prop := (∃ k : Nat, K = (k : Int) ∧ k < ms.length ∧ s.testBit k = false ∧ blkM d ms s k = true) ∨ (K = -1 ∧ CClosed d ms s)

end Go.Proofs.YtacpfcckilnbfaaGreat

namespace Go.Proofs.YtacpfcckilnbfaaGreat
set_option linter.unusedVariables false
set_option linter.unusedSimpArgs false
open Go.RowKit

end Go.Proofs.YtacpfcckilnbfaaGreat

namespace Go.Proofs.YtacpfcckilnbfaaGreat
set_option linter.unusedVariables false
set_option linter.unusedSimpArgs false
open Go.RowKit

/-- What satisfies a member. -/
def fOf (ms : List Mem) (k s : Nat) : Bool := satB 3 (trOf ms k) ((s : Nat) : Int)

theorem decl_lt2 (ms : List Mem) : declS ms ms.length < 2 ^ ms.length :=
  Nat.lt_pow_two_of_testBit _ (fun k hk => by
    cases hb : (declS ms ms.length).testBit k
    · rfl
    · have := declS_bit hb
      omega)

theorem fOf_mono (ms : List Mem) (k a b : Nat) (ha : a < 1024) (hb : b < 1024) (h : Sub a b) (h2 : fOf ms k a = true) : fOf ms k b = true := by
  unfold fOf at h2 ⊢
  rw [sat_of ha] at h2
  rw [sat_of hb]
  exact holdsT_monoA (fun x hx => hasB_sub hb h x hx) 3 _ h2

theorem pairF {ls hs : List Mem} (hp : PairM ls hs) (hl : ls.length ≤ 10) : PairF (fOf ls) (fOf hs) (declS ls ls.length) ls.length :=
  ⟨hl, decl_lt2 ls, fOf_mono ls, fOf_mono hs, fun k s hk hs2 h => by
    obtain ⟨l, e1, hd⟩ := declS_memD hk
    obtain ⟨x, e2⟩ : ∃ x, hs[k]? = some x := ⟨_, List.getElem?_eq_getElem (by rw [hp.len]; exact declS_bit hk)⟩
    have := hp.sat e1 e2 hd s hs2
    unfold fOf trOf at h ⊢
    rw [List.getD_eq_getElem?_getD, e2] at h
    rw [List.getD_eq_getElem?_getD, e1]
    exact this h⟩

theorem isq_del {ls : List Mem} {B q : Nat} (hl : ls.length ≤ 10) (hB : B < 1024) (hok : D3.MemsOk ls.length ls) (hq : q < 1024) : IsQ 3 (D3.delM B ls) q ↔ QB (fOf ls) (declS ls ls.length) B q := by
  have hsub : Sub q (declS (D3.delM B ls) (D3.delM B ls).length) ↔ ∀ k, q.testBit k = true → B.testBit k = false ∧ (declS ls ls.length).testBit k = true := by
    rw [D3.decl_del hl hB]
    constructor
    · intro h k hk
      have h3 := h k hk
      rw [minS_bit, Bool.and_eq_true, Bool.not_eq_true'] at h3
      exact ⟨h3.2, h3.1⟩
    · intro h k hk
      have h3 := h k hk
      rw [minS_bit, h3.1, h3.2]; rfl
  have hsat : ∀ k, q.testBit k = true → B.testBit k = false → (declS ls ls.length).testBit k = true → (uns 3 (D3.delM B ls) q k = false ↔ fOf ls k (q ||| B) = true) := fun k hk hb hd => by
    have hkl := declS_bit hd
    obtain ⟨m, hm, hm1⟩ := declS_memD hd
    rw [uns_iff hq (by omega), hk, Bool.true_and, D3.trOf_del hB (by omega) hm hm1 hb, del_means (n := (ls.length : Int)) (by omega) ((hok m (List.mem_of_getElem? hm)).1 hm1) hB hq (or_lt hq hB) (by omega) hk (fun K hK => by rw [Nat.testBit_or, Bool.or_comm])]
    unfold fOf trOf
    rw [List.getD_eq_getElem?_getD, hm]
    show (!satB 3 m.2 _) = false ↔ satB 3 m.2 _ = true
    cases satB 3 m.2 ((q ||| B : Nat) : Int) <;> simp
  unfold IsQ QB Closed
  rw [hsub, D3.delM_len]
  constructor
  · rintro ⟨h1, h2, h3⟩
    exact ⟨h1, hq, fun k hk => ⟨(h2 k hk).1, (h2 k hk).2, (hsat k hk (h2 k hk).1 (h2 k hk).2).1 (h3 k (declS_bit (h2 k hk).2))⟩⟩
  · rintro ⟨h1, _, h3⟩
    refine ⟨h1, fun k hk => ⟨(h3 k hk).1, (h3 k hk).2.1⟩, fun k hk => ?_⟩
    cases hb : q.testBit k
    · rw [uns_iff hq (by omega), hb]; rfl
    · exact (hsat k hb (h3 k hb).1 (h3 k hb).2.1).2 (h3 k hb).2.2

theorem inT_iff {ls : List Mem} {B : Nat} (hl : ls.length ≤ 10) (hB : B < 1024) (hok : D3.MemsOk ls.length ls) : InT (D3.delM B ls) ↔ IntB (fOf ls) (declS ls ls.length) B := by
  have hp := pow_1024 hl
  have hll : (D3.delM B ls).length ≤ 10 := by rw [D3.delM_len]; exact hl
  constructor
  · intro h a b ha hb
    by_cases hx : ∃ k, a.testBit k = true ∧ b.testBit k = true
    · exact hx
    · refine absurd ⟨(isq_del hl hB hok ha.2.1).2 ha, b, hb.2.1, hb.1, fun k hk => ?_, ((isq_del hl hB hok hb.2.1).2 hb).2.2⟩ (h a)
      have h2 := ((isq_del hl hB hok hb.2.1).2 hb).2.1 k hk
      rw [Nat.testBit_and, h2, Bool.and_true, outS_bit, decide_eq_true (declS_bit h2)]
      cases hak : a.testBit k
      · rfl
      · exact absurd ⟨k, hak, hk⟩ hx
  · rintro h t ⟨h1, q, hq, h2, h3, h4⟩
    have ht : t < 1024 := by
      have := apart_lt (d := 3) (ms := D3.delM B ls) hll ⟨h1, q, hq, h2, h3, h4⟩
      rw [D3.delM_len] at this; omega
    have hsub : Sub q (declS (D3.delM B ls) (D3.delM B ls).length) := fun k hk => by have := h3 k hk; rw [Nat.testBit_and, Bool.and_eq_true] at this; exact this.2
    obtain ⟨k, k1, k2⟩ := h t q ((isq_del hl hB hok ht).1 h1) ((isq_del hl hB hok hq).1 ⟨h2, hsub, h4⟩)
    have h5 := h3 k k2
    rw [Nat.testBit_and, Bool.and_eq_true, outS_bit, k1] at h5
    simp at h5

theorem avT_iff {ls hs : List Mem} {B : Nat} (hp : PairM ls hs) (hl : ls.length ≤ 10) : AvT hs B ↔ AvB (fOf hs) (declS ls ls.length) ls.length B := by
  unfold AvT AvB
  rw [hp.len]
  refine or_congr Iff.rfl ?_
  have hO := outS_lt ls.length B hl
  generalize outS ls.length B = q at hO
  unfold IsQ QB Closed
  rw [hp.decl]
  constructor
  · rintro ⟨h1, h2, h3⟩
    refine ⟨h1, hO, fun k hk => ⟨Nat.zero_testBit k, h2 k hk, ?_⟩⟩
    have hkl := declS_bit (h2 k hk)
    have h4 := h3 k (by rw [hp.len]; exact hkl)
    rw [uns_iff hO (by omega), hk, Bool.true_and, Bool.not_eq_false'] at h4
    rw [Nat.or_zero]; exact h4
  · rintro ⟨h1, _, h3⟩
    refine ⟨h1, fun k hk => (h3 k hk).2.1, fun k hk => ?_⟩
    rw [uns_iff hO (by have := hp.len; omega)]
    cases hb : q.testBit k
    · rfl
    · have h4 := (h3 k hb).2.2
      rw [Nat.or_zero] at h4
      unfold fOf at h4
      rw [h4]; rfl

theorem good_iff {ls hs : List Mem} {B : Nat} (hp : PairM ls hs) (hl : ls.length ≤ 10) (hB : B < 1024) : (AvT hs B ∧ InT (D3.delM B ls)) ↔ DispB (fOf ls) (fOf hs) (declS ls ls.length) ls.length B :=
  and_congr (avT_iff hp hl) (inT_iff hl hB hp.okl)

end Go.Proofs.YtacpfcckilnbfaaGreat

namespace Go.Proofs.YtacpfcckilnbfaaGreat.D3
set_option linter.unusedVariables false
set_option linter.unusedSimpArgs false
open Go.RowKit


structure SMade (w : World) (sb g : Nat) (v : Value) (ms : List Mem) (W : World) : Prop where
  tape : TapeOk W sb
  out : W.heap[g]? = some (.cells #[v] 27 (0, 0))
  mems : MemsAt (fun b => sb < b) 3 W v ms
  low : sb < g
  gr : w.grownBy W (some sb)

theorem SMade.lt {w W : World} {sb g : Nat} {v : Value} {ms : List Mem} (h : SMade w sb g v ms W) : g < W.heap.size := by
  rcases Nat.lt_or_ge g W.heap.size with h1 | h1
  · exact h1
  · have := h.out; rw [Array.getElem?_eq_none h1] at this; cases this

theorem SMade.cell {w W : World} {sb g : Nat} {v : Value} {ms : List Mem} (h : SMade w sb g v ms W) : W.cell? ⟨g, 0, none⟩ = some v := cell_of_row _ _ 0 _ _ (0, 0) h.out

theorem SMade.bel {w W W' : World} {sb g : Nat} {v : Value} {ms : List Mem} (h : SMade w sb g v ms W) (hb : Below W.heap.size W W') : SMade w sb g v ms W' :=
  ⟨h.tape.below hb, (hb.block _ h.lt).trans h.out, h.mems.below hb, h.low, grown_trans h.gr (grown_below hb)⟩

theorem SMade.grown {w W W' : World} {sb g : Nat} {v : Value} {ms : List Mem} (h : SMade w sb g v ms W) (hs : TapeOk W' sb) (hg : W.grownBy W' (some sb)) : SMade w sb g v ms W' :=
  ⟨hs, (hg.block _ h.lt (by have := h.low; simp; omega)).trans h.out, h.mems.both (fun q hq hP => hg.block q hq (by simp; omega)) (fun _ _ h => h), h.low, grown_trans h.gr hg⟩

theorem SMade.keeps {w W : World} {sb g : Nat} {v : Value} {ms : List Mem} (h : SMade w sb g v ms W) : W.cell? ⟨g, 0, none⟩ = some v ∧ SMade w sb g v ms W := ⟨h.cell, h⟩

theorem keepZ {w W W' : World} {sb g : Nat} {v : Value} {ms : List Mem} (h : W.cell? ⟨g, 0, none⟩ = some v ∧ SMade w sb g v ms W) (hb : Below W.heap.size W W') : W'.cell? ⟨g, 0, none⟩ = some v ∧ SMade w sb g v ms W' := (h.2.bel hb).keeps

theorem growZ {w W W' : World} {sb g : Nat} {v : Value} {ms : List Mem} (h : W.cell? ⟨g, 0, none⟩ = some v ∧ SMade w sb g v ms W) (hs : TapeOk W' sb) (hg : W.grownBy W' (some sb)) : W'.cell? ⟨g, 0, none⟩ = some v ∧ SMade w sb g v ms W' := (h.2.grown hs hg).keeps

theorem tapeZ {w W : World} {sb g : Nat} {v : Value} {ms : List Mem} (h : W.cell? ⟨g, 0, none⟩ = some v ∧ SMade w sb g v ms W) : TapeOk W sb := h.2.tape

theorem memsZ {w W : World} {sb g : Nat} {v : Value} {ms : List Mem} (h : W.cell? ⟨g, 0, none⟩ = some v ∧ SMade w sb g v ms W) : MemsAt (fun b => sb < b) 3 W v ms := h.2.mems


theorem or_mulN {L : Nat} (s q a : Nat) (hL : L ≤ 10) (hs : s < 2 ^ L) (hq : q < 2 ^ L) (ha : a < 2) : ∃ r : Nat, r < 2 ^ L ∧ bits .or .i64 (s : Int) (IntKind.i64.wrap ((q : Int) * (a : Int))) = (r : Int) := by
  have h10 : 2 ^ L ≤ 2 ^ 10 := Nat.pow_le_pow_right (by omega) hL
  rcases a with _ | a
  · refine ⟨s ||| 0, by simpa using hs, ?_⟩
    rw [show IntKind.i64.wrap ((q : Int) * ((0 : Nat) : Int)) = ((0 : Nat) : Int) by simp; rfl]
    exact i64_or_nat s 0 (by omega) (by omega)
  · obtain rfl : a = 0 := by omega
    refine ⟨s ||| q, Nat.or_lt_two_pow hs hq, ?_⟩
    rw [show IntKind.i64.wrap ((q : Int) * ((0 + 1 : Nat) : Int)) = ((q : Nat) : Int) by rw [IntWalk.i64_in _ (by push_cast; omega)]; push_cast; omega]
    exact i64_or_nat s q (by omega) (by omega)

set_option maxRecDepth 100000 in
set_option maxHeartbeats 4000000 in
theorem mkSetN_run (sb : Nat) (ms : List Mem) (v : Value) (w : World) (hl0 : 1 ≤ ms.length) (hl : ms.length ≤ 10) (hs : TapeOk w sb) (h : MemsAt (fun b => sb < b) 3 w v ms) :
    Calls Tryz.prog 14 #[.pointer (some ⟨sb, 0, none⟩), .agg #[v]] w fun e w' => ∃ r : Nat, e = .returned (.int .i64 (r : Int)) ∧ r < 2 ^ ms.length ∧ TapeOk w' sb ∧ w.grownBy w' (some sb) := by
  obtain ⟨A, c, rfl⟩ := h.slice
  obtain ⟨L, hL⟩ : ∃ L, ms.length = L := ⟨_, rfl⟩
  rw [hL] at h hl0 hl ⊢
  have hba := balloc (bref w) (.cells #[.slice A L c] 27)
  have HM := Lib.hid (show SMade w sb w.heap.size (.slice A L c) ms (w.alloc (.cells #[.slice A L c] 27)) from ⟨hs.alloc _, alloc_at rfl, h.below hba, hs.lt, grown_below hba⟩)
  have HL := Lib.hid hL
  have hpL : 2 ^ L ≤ 2 ^ 10 := Nat.pow_le_pow_right (by omega) hl
  have hpp : 1 ≤ 2 ^ L := Nat.one_le_pow _ _ (by omega)
  obtain ⟨N, hN⟩ : ∃ N, 2 ^ L = N := ⟨_, rfl⟩
  have HN := Lib.hid hN
  rw [hN] at hpL hpp ⊢
  clear hN
  clear h hs hba hL
  go_enter Tryz.func14, Tryz.ntmps14
  go_upto_region 1 with fail
  generalize w.alloc (.cells #[.slice A L c] 27) = W1 at *
  generalize w.heap.size = g at *
  have c0 := HM.out.cell
  go_upto_region 3 with fail
  have hp5 : ∀ j, j < 5 → (W1.alloc (.cells #[.int .i64 0, .int .i64 1, .int .i64 1, .int .i64 2, .int .i64 3] 3)).cell? ⟨W1.heap.size, j, none⟩ = some (.int .i64 (([0, 1, 1, 2, 3] : List Int).getD j 0)) := by
    intro j hj
    rw [cell_of_row _ _ j _ _ (0, 0) (heap_alloc_new _ _)]
    match j, hj with
    | 0, _ | 1, _ | 2, _ | 3, _ | 4, _ => rfl
  have HP5 := Lib.hid hp5
  have hsb : W1.heap.size ≠ sb := by have := HM.out.tape.lt; omega
  clear hp5 c0
  go_wp2_with fail
  refine (TPick_run _ sb W1.heap.size [0, 1, 1, 2, 3] 5 rfl (by omega) (by omega) HP5.out hsb (HM.out.tape.alloc _)).mono ?_
  rintro e W2 ⟨j, hj, rfl, hs1, hg1⟩
  obtain ⟨q, hq, hq3⟩ : ∃ q : Nat, ([0, 1, 1, 2, 3] : List Int).getD j 0 = (q : Int) ∧ q ≤ 3 := by
    match j, hj with
    | 0, _ => exact ⟨0, rfl, by omega⟩
    | 1, _ => exact ⟨1, rfl, by omega⟩
    | 2, _ => exact ⟨1, rfl, by omega⟩
    | 3, _ => exact ⟨2, rfl, by omega⟩
    | 4, _ => exact ⟨3, rfl, by omega⟩
  rw [hq]
  have H2 := Lib.hid ((HM.out.bel (balloc (bref W1) (.cells #[.int .i64 0, .int .i64 1, .int .i64 1, .int .i64 2, .int .i64 3] 3))).grown hs1 hg1)
  clear hq hj hs1 hg1 HP5 hsb
  go_wp2_with fail
  go_loopw [6, 7] (fun sv t W => ∃ (s q : Nat), sv = .int .i64 (s : Int) ∧ t = .int .i64 (q : Int) ∧ s < N ∧ q ≤ 3 ∧ Hid (SMade w sb g (.slice A L c) ms W)) (fun _ t _ => (intOf t).toNat)
  case atStart => exact ⟨0, q, rfl, rfl, by omega, hq3, H2⟩
  case round =>
    obtain ⟨s, q, rfl, rfl, hs, hq, hM⟩ := hrel
    by_cases hpos : 0 < q
    · have hqi : (0 : Int) < (q : Int) := by omega
      go_wp2_with fail
      refine (TN_run _ sb _ (by omega) (by omega) hM.out.tape).mono ?_
      rintro e W3 ⟨r, hr0, hr1, rfl, hs3, hg3⟩
      obtain ⟨K, rfl⟩ := Int.eq_ofNat_of_zero_le hr0
      have H3 := Lib.hid (hM.out.grown hs3 hg3)
      have HOR := Lib.hid (shl_or s K (by omega) (by omega))
      have hso : s ||| 2 ^ K < N := by rw [← HN.out]; exact Nat.or_lt_two_pow (by rw [HN.out]; exact hs) (Nat.pow_lt_pow_right (by omega) (by omega))
      have hk0 : (0 : Int) ≤ (K : Int) := by omega
      have hk64 : (K : Int) < 64 := by omega
      clear hs3 hg3 hM
      go_wp2_with fail
      rw [HOR.out]
      go_roundw
      case rel => exact ⟨s ||| 2 ^ K, q - 1, rfl, by go_num, hso, by omega, H3⟩
      case measure => simp [intOf]; omega
    · obtain rfl : q = 0 := by omega
      clear hpos
      go_upto_region 7 with fail
      have hp := pow11' L (by omega)
      rw [HN.out] at hp
      have hw1 : IntKind.i64.wrap ((N : Int) - 1) = ((N - 1 : Nat) : Int) := (IntWalk.i64_in _ (by omega)).trans (by omega)
      have hdl := declS_lt ms ms.length (by rw [HL.out]; exact hl)
      have hand := andNot_nat (N - 1) (declS ms ms.length) (by omega) hdl
      have HQL := Lib.hid (show (N - 1) ^^^ ((N - 1) &&& declS ms ms.length) < N by rw [← HN.out]; exact Nat.xor_lt_two_pow (by rw [HN.out]; omega) (Nat.lt_of_le_of_lt Nat.and_le_left (by rw [HN.out]; omega)))
      obtain ⟨D, hD⟩ : ∃ D, declS ms ms.length = D := ⟨_, rfl⟩
      have HD := Lib.hid hD
      rw [hD] at hand HQL
      generalize (N - 1) ^^^ ((N - 1) &&& D) = Q at *
      generalize N - 1 = n1 at *
      have HLL := Lib.hid (show ms.length ≤ 10 by rw [HL.out]; exact hl)
      clear hD hdl
      have hS := Lib.hid (hM.out.bel ⟨rfl, rfl, rfl, Nat.le_refl _, fun _ _ => rfl⟩ : SMade w sb g (.slice A L c) ms wr.drew).keeps
      go_region_held3 (fun W => W.cell? ⟨g, 0, none⟩ = some (.slice A L c) ∧ SMade w sb g (.slice A L c) ms W) (first | exact hS.out | exact hSK | exact keepZ (by assumption) hbK | go_keep)
        (first
          | (go_at_call 21; refine (TN_run _ _ _ (by omega) (by omega) (by exact tapeZ (by assumption))).mono ?_; rintro e WK ⟨r, hr0, hr1, rfl, hsK, hgK⟩; obtain ⟨a, rfl⟩ := Int.eq_ofNat_of_zero_le hr0; have hSK := growZ (by assumption) hsK hgK)
          | (go_at_call 20; refine (rdeclared_run _ 3 ms _ _ HLL.out (by exact memsZ (by assumption))).mono ?_; rintro e WK ⟨rfl, hbK⟩; rw [HD.out]; have hSK := keepZ (by assumption) hbK))
      all_goals
        obtain ⟨R, hR, hRe⟩ := or_mulN (L := L) s Q a hl (by rw [HN.out]; exact hs) (by rw [HN.out]; exact HQL.out) (by omega)
        rw [HN.out] at hR
        have HZ := Lib.hid (And.intro hR (And.intro hSK.2.tape hSK.2.gr))
        have HRE := Lib.hid hRe
        clear hRe hSK
        go_wp2_with fail
        go_ret
        exact ⟨R, by first | rfl | (rw [HRE.out]; rfl), HZ.out⟩

end Go.Proofs.YtacpfcckilnbfaaGreat.D3
namespace Go.Proofs.YtacpfcckilnbfaaGreat

end Go.Proofs.YtacpfcckilnbfaaGreat

namespace Go.Proofs.YtacpfcckilnbfaaGreat
set_option linter.unusedVariables false
set_option linter.unusedSimpArgs false
open Go.RowKit

end Go.Proofs.YtacpfcckilnbfaaGreat

namespace Go.Proofs.YtacpfcckilnbfaaGreat
set_option linter.unusedVariables false
set_option linter.unusedSimpArgs false
open Go.RowKit

theorem bf_succ {n k b : Nat} {L : List Nat} (h : L[k]? = some b) : bfold n (L.take (k + 1)) = bfold n (L.take k) &&& b := by
  unfold bfold
  rw [List.take_add_one, h, List.foldl_append]; rfl

/-- What Of returns. -/
def OfIs (s : Nat) (ls hs : List Mem) (a : Nat) : Prop := (¬ InT (D3.delM s ls) ∧ a = 0) ∨ (InT (D3.delM s ls) ∧ ∃ L, AllIs s ls hs L ∧ a = outS ls.length (bfold ls.length L))

theorem OfIs.lt {s : Nat} {ls hs : List Mem} {a : Nat} (h : OfIs s ls hs a) : a < 2 ^ ls.length := by
  rcases h with ⟨_, rfl⟩ | ⟨_, L, _, rfl⟩
  · exact Nat.two_pow_pos _
  · exact outS_lt2 _ _

set_option maxRecDepth 100000 in
set_option maxHeartbeats 400000 in
theorem inmembers_run (A : Option Addr) (n c : Nat) (hn : n ≤ 10) (w : World) : Calls Tryz.prog 68 #[.agg #[.slice A n c]] w fun e w' => e = .returned (.int .i64 ((2 ^ n - 1 : Nat) : Int)) ∧ Below w.heap.size w w' := by
  have hp := pow11 n (by omega)
  have hp1 : 1 ≤ 2 ^ n := Nat.one_le_pow _ _ (by omega)
  have hp2 : 2 ^ n ≤ 2 ^ 10 := Nat.pow_le_pow_right (by omega) hn
  obtain ⟨N, hN⟩ : ∃ N, 2 ^ n = N := ⟨_, rfl⟩
  rw [hN] at hp hp1 hp2 ⊢
  clear hN
  have hw1 : wrap64 ((N : Int) - 1) = (N : Int) - 1 := by unfold wrap64; omega
  have hn64 : (n : Int) < 64 := by omega
  have HE := Lib.hid (show ((N - 1 : Nat) : Int) = (N : Int) - 1 by omega)
  go_enter Tryz.func68, Tryz.ntmps68
  go_wp2_with fail
  go_ret
  exact ⟨by rw [HE.out]; rfl, balloc (bref _) _⟩

set_option maxRecDepth 100000 in
set_option maxHeartbeats 2000000 in
theorem inints_run (P : Nat → Prop) (ms : List Mem) (v : Value) (s : Nat) (w : World) (hl : ms.length ≤ 10) (hs : s < 2 ^ ms.length) (h : MemsAt P 3 w v ms) (hok : D3.MemsOk ms.length ms) :
    Calls Tryz.prog 67 #[.agg #[v], .int .i64 (s : Int)] w fun e w' => (∃ x : Bool, e = .returned (.bool x) ∧ (x = true ↔ InT (D3.delM s ms))) ∧ Below w.heap.size w w' := by
  obtain ⟨A, c, rfl⟩ := h.slice
  have hb1 : Below w.heap.size w (w.alloc (.cells #[.slice A ms.length c] 27)) := balloc (bref w) _
  have k0 : (w.alloc (.cells #[.slice A ms.length c] 27)).heap[w.heap.size]? = some (.cells #[.slice A ms.length c] 27 (0, 0)) := alloc_at rfl
  have hp2 : 2 ^ ms.length ≤ 2 ^ 10 := Nat.pow_le_pow_right (by omega) hl
  have hs10 : s < 1024 := by omega
  have H := Lib.hid (h.below hb1)
  have HB := Lib.hid hb1
  have K0 := Lib.hid k0
  have HOK := Lib.hid hok
  have HS := Lib.hid hs
  clear h hb1 k0 hp2 hs hok
  go_enter Tryz.func67, Tryz.ntmps67
  go_upto_region 1 with fail
  generalize w.alloc (.cells #[.slice A ms.length c] 27) = W1 at *
  generalize hg : w.heap.size = g at *
  have HG := Lib.hid hg
  clear hg
  have c0 : W1.cell? ⟨g, 0, none⟩ = some (.slice A ms.length c) := cell_of_row _ _ 0 _ _ (0, 0) K0.out
  have HBw := Lib.hid (show Below w.heap.size w W1 by rw [HG.out]; exact HB.out)
  go_wp2_with fail
  refine (dpints_run P ms _ s _ hl HS.out H.out HOK.out).mono ?_
  rintro e W2x ⟨⟨x, rfl, hx⟩, hbx⟩
  have c1 := (hbx.cell (cell_lt c0)).trans c0
  have HB1 := Lib.hid (bstep HBw.out hbx)
  have H1 := Lib.hid (H.out.below hbx)
  clear hbx c0
  have HX := Lib.hid hx
  clear hx
  go_wp2_with fail
  go_ret
  exact ⟨⟨x, rfl, HX.out⟩, HB1.out⟩

set_option maxRecDepth 100000 in
set_option maxHeartbeats 4000000 in
theorem inof_run (P Q : Nat → Prop) (ls hs : List Mem) (vl vh : Value) (s : Nat) (hsx : s < 2 ^ ls.length) (w : World) (hl : ls.length ≤ 7) (h1 : MemsAt P 3 w vl ls) (h2 : MemsAt Q 3 w vh hs) (hp : PairM ls hs) :
    Calls Tryz.prog 29 #[.agg #[vl], .agg #[vh], .int .i64 (s : Int)] w fun e w' => (∃ a : Nat, e = .returned (.tuple #[.int .i64 (a : Int), .int .i64 0]) ∧ OfIs s ls hs a) ∧ Below w.heap.size w w' := by
  have HS := Lib.hid hsx
  clear hsx
  obtain ⟨A, c, rfl⟩ := h1.slice
  obtain ⟨B, d, rfl⟩ := h2.slice
  have hlen := hp.len
  have hokl := hp.okl
  have hokh := hp.okh
  have hdec := hp.decl
  have HDL := Lib.hid (fun W (h : MemsAt P 3 W (.slice A ls.length c) ls) => declared_run P 3 ls _ W (by omega) h)
  have HDH := Lib.hid (fun W (h : MemsAt Q 3 W (.slice B hs.length d) hs) => declared_run Q 3 hs _ W (by omega) h)
  rw [hdec] at HDH
  rw [hlen] at h2 HDH hokh ⊢
  obtain ⟨n, hn⟩ : ∃ n, ls.length = n := ⟨_, rfl⟩
  have HN := Lib.hid hn
  have HNH := Lib.hid hlen
  rw [hn] at HNH
  have HD := Lib.hid (fun k (h : (declS ls ls.length).testBit k = true) => declS_bit h)
  have HDM := Lib.hid (fun k (h : (declS ls ls.length).testBit k = true) => declS_memD h)
  have hDl : declS ls ls.length < 1024 := declS_lt ls _ (by omega)
  generalize declS ls ls.length = D at HDL HDH hDl HD HDM
  rw [hn] at h1 h2 HDL HDH hokl hokh hl HD ⊢
  have HP := Lib.hid hp
  have HOL := Lib.hid hokl
  have HOH := Lib.hid hokh
  have HPA := Lib.hid (PA.new h1 h2)
  clear h1 h2 hp hokl hokh hn hdec hlen
  go_enter Tryz.func29, Tryz.ntmps29
  go_upto_region 1 with fail
  generalize ((w.alloc (.cells #[.slice A n c] 27)).alloc (.cells #[.slice B n d] 27)) = W1 at *
  generalize w.heap.size = g at HPA ⊢
  have l0 := HPA.out.cs.1
  have h0 := HPA.out.cs.2.1
  go_wp2_with fail
  refine (dpall_run P Q ls hs _ _ s HS.out _ (by rw [HN.out]; exact hl) HPA.out.ml HPA.out.mh HP.out).mono ?_
  rintro e W1x ⟨⟨va, L, rfl, hnv, hal⟩, hbx⟩
  have HAL := Lib.hid hal
  obtain ⟨An, cn, rfl⟩ := hnv.slice
  have hzl : (zs L).length = L.length := by unfold zs; simp
  have hnv2 := hnv.both (w' := W1x) (Q := fun _ => True) (fun _ _ _ => rfl) (fun _ _ _ => trivial)
  rw [hzl] at hnv2 ⊢
  obtain ⟨m, hm⟩ : ∃ m, L.length = m := ⟨_, rfl⟩
  have hm10 : m ≤ 1024 := by rw [← hm]; exact hal.2.1
  rw [hm] at hnv2 ⊢
  have HNV := Lib.hid hnv2
  have HML := Lib.hid hm
  clear hnv hal hzl hnv2 hm
  have HPA1 := Lib.hid (HPA.out.to hbx)
  clear hbx l0 h0
  have l1 := HPA1.out.cs.1
  have h1 := HPA1.out.cs.2.1
  go_wp2_with fail
  refine (inints_run P ls _ s _ (by rw [HN.out]; omega) HS.out HPA1.out.ml (by rw [HN.out]; exact HOL.out)).mono ?_
  rintro e W2x ⟨⟨x, rfl, hx⟩, hbx⟩
  have HPA2 := Lib.hid (HPA1.out.to hbx)
  have HBZ := Lib.hid hbx
  clear hbx l1 h1
  have l2 := HPA2.out.cs.1
  have h2 := HPA2.out.cs.2.1
  have HX := Lib.hid hx
  clear hx
  have HN2 := Lib.hid (HNV.out.below HBZ.out)
  cases x
  · have HF := Lib.hid (show OfIs s ls hs 0 from .inl ⟨fun h => (by have := HX.out.2 h; cases this), rfl⟩)
    go_wp2_with fail
    go_ret2
    exact ⟨⟨0, rfl, HF.out⟩, HPA2.out.bel⟩
  · have HIN := Lib.hid (HX.out.1 (by first | rfl | trivial))
    go_wp2_with fail
    refine (inmembers_run A n c (by omega) _).mono ?_
    rintro e W3x ⟨rfl, hb3⟩
    have HPA3 := Lib.hid (HPA2.out.to hb3)
    have HN3 := Lib.hid (HN2.out.below hb3)
    clear hb3 l2 h2
    have HBF0 := Lib.hid (show bfold n (L.take 0) = 2 ^ n - 1 from rfl)
    have HBL := Lib.hid (fun k => bf_lt n (L.take k))
    have hp10 : 2 ^ n ≤ 2 ^ 7 := Nat.pow_le_pow_right (by omega) (by omega)
    have HP10 := Lib.hid hp10
    obtain ⟨M, hM⟩ : ∃ M, 2 ^ n - 1 = M := ⟨_, rfl⟩
    have hM10 : M < 1024 := by omega
    have HMM := Lib.hid hM
    rw [hM] at HBF0 ⊢
    clear hM hp10
    go_wp2_with fail
    go_loopw [10, 31] (fun u t W => ∃ k : Nat, k ≤ m ∧ u = .int .i64 ((bfold n (L.take k) : Nat) : Int) ∧ t = .int .i64 (k : Int) ∧ Hid (Below W3x.heap.size W3x W)) (fun _ t _ => m - (intOf t).toNat)
    case atStart => exact ⟨0, Nat.zero_le _, by rw [HBF0.out], rfl, Lib.hid (bref _)⟩
    case round =>
      obtain ⟨k, hk, rfl, rfl, hBe⟩ := hrel
      have hbl := HBL.out k
      have hbl2 := HP10.out
      by_cases hlt : k < m
      · obtain ⟨b, hb⟩ : ∃ b, L[k]? = some b := ⟨_, List.getElem?_eq_getElem (by rw [HML.out]; exact hlt)⟩
        obtain ⟨A', c', hA', hcl⟩ := (HN3.out.below hBe.out)
        injection hA' with q1 q2 q3
        subst q1
        obtain ⟨bn, on, hbn, _, hcn⟩ := hcl k (by unfold zs; rw [List.length_map, HML.out]; exact hlt)
        subst hbn
        rw [zs_getD hb] at hcn
        have hb1 := ((HAL.out.2.2 b).1 (List.mem_of_getElem? hb)).1
        rw [HN.out] at hb1
        have hand := i64_and_nat (bfold n (L.take k)) b (by omega) (by omega)
        have HSU := Lib.hid (bf_succ (n := n) hb)
        rw [← bf_succ (n := n) hb] at hand
        generalize bfold n (L.take k) = acc at hand ⊢
        clear hcl hb q2 q3 hbl hbl2
        go_wp2_with fail
        go_roundw
        case rel => exact ⟨k + 1, hlt, rfl, by go_num, hBe⟩
        case measure => simp [intOf]; omega
      · obtain rfl : k = m := by omega
        have HPA4 := Lib.hid (HPA3.out.to hBe.out)
        have l4 := HPA4.out.cs.1
        have HTK := Lib.hid (show bfold n (L.take k) = bfold n L from by rw [← HML.out, List.take_length])
        rw [HTK.out] at hbl ⊢
        have han : bits .andNot .i64 (M : Int) ((bfold n L : Nat) : Int) = ((outS n (bfold n L) : Nat) : Int) := by
          have h := andNot_nat M (bfold n L) hM10 (by omega)
          rw [h]; unfold outS; rw [HMM.out]
        have HF := Lib.hid (show OfIs s ls hs (outS n (bfold n L)) from .inr ⟨HIN.out, L, HAL.out, by rw [HN.out]⟩)
        generalize outS n (bfold n L) = a at han HF
        generalize bfold n L = bf at han hbl ⊢
        go_wp2_with fail
        refine (inmembers_run A n c (by omega) _).mono ?_
        rintro e W5x ⟨rfl, hb5⟩
        have HB5 := Lib.hid (HPA4.out.to hb5).bel
        rw [HMM.out]
        clear hb5 l4
        go_wp2_with fail
        go_ret2
        exact ⟨⟨a, rfl, HF.out⟩, HB5.out⟩

set_option maxRecDepth 100000 in
set_option maxHeartbeats 4000000 in
theorem inbef_run (P Q : Nat → Prop) (ls hs : List Mem) (vl vh : Value) (s : Nat) (hsx : s < 2 ^ ls.length) (w : World) (hl : ls.length ≤ 7) (h1 : MemsAt P 3 w vl ls) (h2 : MemsAt Q 3 w vh hs) (hp : PairM ls hs) :
    Calls Tryz.prog 30 #[.agg #[vl], .agg #[vh], .int .i64 (s : Int)] w fun e w' => (∃ r : Nat, e = .returned (.tuple #[.int .i64 (r : Int), .int .i64 0]) ∧ ∃ a, OfIs s ls hs a ∧ r = outS ls.length a) ∧ Below w.heap.size w w' := by
  have HS := Lib.hid hsx
  clear hsx
  obtain ⟨A, c, rfl⟩ := h1.slice
  obtain ⟨B, d, rfl⟩ := h2.slice
  have hlen := hp.len
  have hokl := hp.okl
  have hokh := hp.okh
  have hdec := hp.decl
  have HDL := Lib.hid (fun W (h : MemsAt P 3 W (.slice A ls.length c) ls) => declared_run P 3 ls _ W (by omega) h)
  have HDH := Lib.hid (fun W (h : MemsAt Q 3 W (.slice B hs.length d) hs) => declared_run Q 3 hs _ W (by omega) h)
  rw [hdec] at HDH
  rw [hlen] at h2 HDH hokh ⊢
  obtain ⟨n, hn⟩ : ∃ n, ls.length = n := ⟨_, rfl⟩
  have HN := Lib.hid hn
  have HNH := Lib.hid hlen
  rw [hn] at HNH
  have HD := Lib.hid (fun k (h : (declS ls ls.length).testBit k = true) => declS_bit h)
  have HDM := Lib.hid (fun k (h : (declS ls ls.length).testBit k = true) => declS_memD h)
  have hDl : declS ls ls.length < 1024 := declS_lt ls _ (by omega)
  generalize declS ls ls.length = D at HDL HDH hDl HD HDM
  rw [hn] at h1 h2 HDL HDH hokl hokh hl HD ⊢
  have HP := Lib.hid hp
  have HOL := Lib.hid hokl
  have HOH := Lib.hid hokh
  have HPA := Lib.hid (PA.new h1 h2)
  clear h1 h2 hp hokl hokh hn hdec hlen
  go_enter Tryz.func30, Tryz.ntmps30
  go_upto_region 1 with fail
  generalize ((w.alloc (.cells #[.slice A n c] 27)).alloc (.cells #[.slice B n d] 27)) = W1 at *
  generalize w.heap.size = g at HPA ⊢
  have l0 := HPA.out.cs.1
  have h0 := HPA.out.cs.2.1
  go_wp2_with fail
  refine (inof_run P Q ls hs _ _ s HS.out _ (by rw [HN.out]; exact hl) HPA.out.ml HPA.out.mh HP.out).mono ?_
  rintro e W1x ⟨⟨a, rfl, hof⟩, hbx⟩
  have HPA1 := Lib.hid (HPA.out.to hbx)
  clear hbx l0 h0
  have l1 := HPA1.out.cs.1
  have h1 := HPA1.out.cs.2.1
  have HOF := Lib.hid hof
  clear hof
  go_wp2_with fail
  refine (inmembers_run A n c (by omega) _).mono ?_
  rintro e W2x ⟨rfl, hb2⟩
  have HB2 := Lib.hid (HPA1.out.to hb2).bel
  clear hb2 l1 h1
  have hal := HOF.out.lt
  rw [HN.out] at hal
  have hp10 : 2 ^ n ≤ 2 ^ 7 := Nat.pow_le_pow_right (by omega) (by omega)
  have han : bits .andNot .i64 ((2 ^ n - 1 : Nat) : Int) (a : Int) = ((outS n a : Nat) : Int) := andNot_nat (2 ^ n - 1) a (by omega) (by omega)
  have HF := Lib.hid (show ∃ x, OfIs s ls hs x ∧ outS n a = outS n x from ⟨a, HOF.out, rfl⟩)
  generalize outS n a = r at han HF
  generalize 2 ^ n - 1 = M at han ⊢
  clear hal hp10
  go_wp2_with fail
  go_ret2
  exact ⟨⟨r, rfl, HF.out⟩, HB2.out⟩

end Go.Proofs.YtacpfcckilnbfaaGreat

namespace Go.Proofs.YtacpfcckilnbfaaGreat
set_option linter.unusedVariables false
set_option linter.unusedSimpArgs false
open Go.RowKit

theorem all15 {L : List Nat} (h : AllIs 1 (foM 4) (foM 4) L) : L = [1, 15] := by
  refine asc_ext h.1 (by unfold Asc; decide +kernel) (fun b => ?_)
  rw [h.2.2 b]
  unfold GoodB
  rw [avB_iff, inB_iff (by rw [D3.delM_len]; decide), foM_len]
  constructor
  · rintro ⟨h1, hs, h2, h3⟩
    have h4 := fo14 ⟨b, h1⟩
    rw [h2, h3] at h4
    have h5 : b ∈ [0, 1, 2, 4, 8, 15] := of_decide_eq_true h4.symm
    have h6 := hs 0 (by decide)
    simp only [List.mem_cons, List.not_mem_nil, or_false] at h5
    rcases h5 with rfl | rfl | rfl | rfl | rfl | rfl <;> first | (simp; done) | (exact absurd h6 (by decide))
  · intro hb
    simp only [List.mem_cons, List.not_mem_nil, or_false] at hb
    have h1 : b < 16 := by omega
    have h4 := fo14 ⟨b, h1⟩
    have h5 : b ∈ [0, 1, 2, 4, 8, 15] := by rcases hb with rfl | rfl <;> simp
    rw [decide_eq_true h5, Bool.and_eq_true] at h4
    refine ⟨h1, fun k hk => ?_, h4.1, h4.2⟩
    have hk0 : k = 0 := by
      rcases k with _ | k
      · rfl
      · rw [Nat.testBit_succ] at hk; simp at hk
    subst hk0
    rcases hb with rfl | rfl <;> decide

theorem in15a : inB (D3.delM 1 (foM 4)) = true := by decide +kernel

theorem in15b : inB (D3.delM 3 (foM 4)) = false := by decide +kernel

theorem of15a {a : Nat} (h : OfIs 1 (foM 4) (foM 4) a) : a = 14 := by
  rcases h with ⟨h, _⟩ | ⟨_, L, hL, rfl⟩
  · exact absurd ((inB_iff (by rw [D3.delM_len]; decide)).2 in15a) h
  · rw [all15 hL]; decide +kernel

theorem of15b {a : Nat} (h : OfIs 3 (foM 4) (foM 4) a) : a = 0 := by
  rcases h with ⟨_, h⟩ | ⟨h, _⟩
  · exact h
  · have h2 := (inB_iff (by rw [D3.delM_len]; decide)).1 h
    rw [in15b] at h2; cases h2

theorem of15c {r : Nat} (h : ∃ a, OfIs 1 (foM 4) (foM 4) a ∧ r = outS (foM 4).length a) : r = 1 := by
  obtain ⟨a, h1, rfl⟩ := h
  rw [of15a h1]; decide +kernel

set_option maxRecDepth 100000 in
set_option maxHeartbeats 8000000 in
theorem awake15 (w : World) : Calls Tryz.prog 33 #[] w fun e w' => e = .returned (.bool true) ∧ Below w.heap.size w w' := by
  have hl7 : (foM 4).length ≤ 7 := by decide
  have HA := Lib.hid (fun a (h : OfIs 1 (foM 4) (foM 4) a) => of15a h)
  have HB := Lib.hid (fun a (h : OfIs 3 (foM 4) (foM 4) a) => of15b h)
  have HC := Lib.hid (fun r (h : ∃ a, OfIs 1 (foM 4) (foM 4) a ∧ r = outS (foM 4).length a) => of15c h)
  go_enter Tryz.func33, Tryz.ntmps33
  go_wp2_with fail
  refine (four15 _).mono ?_
  rintro e w1 ⟨v1, rfl, hm1, hb1⟩
  go_wp2_with fail
  refine (four15 _).mono ?_
  rintro e w2 ⟨v2, rfl, hm2, hb2⟩
  go_wp2_with fail
  refine (inof_run (fun _ => True) (fun _ => True) (foM 4) (foM 4) v1 v2 1 (by decide) _ hl7 (hm1.below hb2) hm2 foM_pair).mono ?_
  rintro e w3 ⟨⟨a, rfl, ha⟩, hb3⟩
  obtain rfl := HA.out a ha
  have HB3 := Lib.hid (bstep (bstep hb1 hb2) hb3)
  clear hm1 hb1 hm2 hb2 hb3 ha
  go_wp2_with fail
  refine (four15 _).mono ?_
  rintro e w4 ⟨v4, rfl, hm4, hb4⟩
  go_wp2_with fail
  refine (four15 _).mono ?_
  rintro e w5 ⟨v5, rfl, hm5, hb5⟩
  go_wp2_with fail
  refine (inof_run (fun _ => True) (fun _ => True) (foM 4) (foM 4) v4 v5 3 (by decide) _ hl7 (hm4.below hb5) hm5 foM_pair).mono ?_
  rintro e w6 ⟨⟨b, rfl, hb⟩, hb6⟩
  obtain rfl := HB.out b hb
  have HB6 := Lib.hid (bstep (bstep (bstep HB3.out hb4) hb5) hb6)
  clear hm4 hb4 hm5 hb5 hb6 hb
  go_wp2_with fail
  refine (four15 _).mono ?_
  rintro e w7 ⟨v7, rfl, hm7, hb7⟩
  go_wp2_with fail
  refine (four15 _).mono ?_
  rintro e w8 ⟨v8, rfl, hm8, hb8⟩
  go_wp2_with fail
  refine (inbef_run (fun _ => True) (fun _ => True) (foM 4) (foM 4) v7 v8 1 (by decide) _ hl7 (hm7.below hb8) hm8 foM_pair).mono ?_
  rintro e w9 ⟨⟨r, rfl, hr⟩, hb9⟩
  obtain rfl := HC.out r hr
  have HB9 := Lib.hid (bstep (bstep (bstep HB6.out hb7) hb8) hb9)
  clear hm7 hb7 hm8 hb8 hb9 hr
  go_wp2_with fail
  go_ret
  exact ⟨rfl, HB9.out⟩

end Go.Proofs.YtacpfcckilnbfaaGreat

namespace Go.Proofs.YtacpfcckilnbfaaGreat
set_option linter.unusedVariables false
set_option linter.unusedSimpArgs false
open Go.RowKit

theorem allL_of {ls hs : List Mem} {s : Nat} {L : List Nat} (hp : PairM ls hs) (hl : ls.length ≤ 10) (h : AllIs s ls hs L) : AllL (fOf ls) (fOf hs) (declS ls ls.length) ls.length s L := fun t => by
  have p10 := pow_1024 hl
  rw [h.2.2 t]
  constructor
  · rintro ⟨h1, h2, h3⟩; exact ⟨h1, h2, (good_iff hp hl (by omega)).1 h3⟩
  · rintro ⟨h1, h2, h3⟩; exact ⟨h1, h2, (good_iff hp hl (by omega)).2 h3⟩

theorem ofIs_iff {ls hs : List Mem} {s a : Nat} (hp : PairM ls hs) (hl : ls.length ≤ 10) (hs2 : s < 2 ^ ls.length) (h : OfIs s ls hs a) :
    (¬ IntB (fOf ls) (declS ls ls.length) s ∧ a = 0) ∨ (IntB (fOf ls) (declS ls ls.length) s ∧ ∃ L, AllL (fOf ls) (fOf hs) (declS ls ls.length) ls.length s L ∧ AllIs s ls hs L ∧ a = outS ls.length (bfold ls.length L)) := by
  have p10 := pow_1024 hl
  rcases h with ⟨h1, h2⟩ | ⟨h1, L, h2, h3⟩
  · exact .inl ⟨fun h => h1 ((inT_iff hl (by omega) hp.okl).2 h), h2⟩
  · exact .inr ⟨(inT_iff hl (by omega) hp.okl).1 h1, L, allL_of hp hl h2, h2, h3⟩

theorem out_out {n b : Nat} (h : b < 2 ^ n) : outS n (outS n b) = b := by
  apply Nat.eq_of_testBit_eq
  intro k
  rw [outS_bit, outS_bit]
  cases hb : b.testBit k
  · cases decide (k < n) <;> rfl
  · rw [decide_eq_true (lt_bit h hb)]; rfl

theorem of_uniq {ls hs : List Mem} {s a b : Nat} (hp : PairM ls hs) (hl : ls.length ≤ 10) (h : OfIs s ls hs a) (h' : OfIs s ls hs b) : a = b := by
  rcases h with ⟨h1, rfl⟩ | ⟨h1, L, h2, rfl⟩ <;> rcases h' with ⟨h1', rfl⟩ | ⟨h1', L', h2', rfl⟩
  · rfl
  · exact absurd h1' h1
  · exact absurd h1 h1'
  · rw [asc_ext h2.1 h2'.1 (fun t => by rw [h2.2.2 t, h2'.2.2 t])]

end Go.Proofs.YtacpfcckilnbfaaGreat

namespace Go.Proofs.YtacpfcckilnbfaaGreat
open Go.RowKit

end Go.Proofs.YtacpfcckilnbfaaGreat

namespace Go.Proofs.YtacpfcckilnbfaaGreat
set_option linter.unusedVariables false
set_option linter.unusedSimpArgs false
open Go.RowKit

/-- What Follows returns. -/
def FolIs (s x : Nat) (ls hs : List Mem) (e : Ending) : Prop := ∃ a, OfIs s ls hs a ∧
  ((∃ k : Nat, a.testBit k = true ∧ x.testBit k = false ∧ k < 10 ∧ blkM 3 ls (a &&& x) k = true ∧ e = .returned (.tuple #[.int .i64 (k : Int), .bool true, .int .i64 0])) ∨
   ((∀ k : Nat, a.testBit k = true → x.testBit k = false → blkM 3 ls (a &&& x) k = false) ∧ e = .returned (.tuple #[.int .i64 (-1), .bool false, .int .i64 0])))

end Go.Proofs.YtacpfcckilnbfaaGreat

namespace Go.Proofs.YtacpfcckilnbfaaGreat
set_option linter.unusedVariables false
set_option linter.unusedSimpArgs false
open Go.RowKit

def cnt6 (t : Nat) : Nat := (List.range 6).countP (fun k => t.testBit k)

end Go.Proofs.YtacpfcckilnbfaaGreat

namespace Go.Proofs.YtacpfcckilnbfaaGreat
set_option linter.unusedVariables false
set_option linter.unusedSimpArgs false
open Go.RowKit

set_option maxRecDepth 100000 in
set_option maxHeartbeats 400000 in
theorem rdmembers_run (A : Option Addr) (n c : Nat) (hn : n ≤ 10) (w : World) : Calls Tryz.prog 70 #[.agg #[.slice A n c]] w fun e w' => e = .returned (.int .i64 ((2 ^ n - 1 : Nat) : Int)) ∧ Below w.heap.size w w' := by
  have hp := pow11 n (by omega)
  have hp1 : 1 ≤ 2 ^ n := Nat.one_le_pow _ _ (by omega)
  have hp2 : 2 ^ n ≤ 2 ^ 10 := Nat.pow_le_pow_right (by omega) hn
  obtain ⟨N, hN⟩ : ∃ N, 2 ^ n = N := ⟨_, rfl⟩
  rw [hN] at hp hp1 hp2 ⊢
  clear hN
  have hw1 : wrap64 ((N : Int) - 1) = (N : Int) - 1 := by unfold wrap64; omega
  have hn64 : (n : Int) < 64 := by omega
  have HE := Lib.hid (show ((N - 1 : Nat) : Int) = (N : Int) - 1 by omega)
  go_enter Tryz.func70, Tryz.ntmps70
  go_wp2_with fail
  go_ret
  exact ⟨by rw [HE.out]; rfl, balloc (bref _) _⟩

set_option maxRecDepth 100000 in
set_option maxHeartbeats 2000000 in
theorem rdset_run (P : Nat → Prop) (ms : List Mem) (v : Value) (s : Nat) (w : World) (hl : ms.length ≤ 10) (hs : s < 2 ^ ms.length) (h : MemsAt P 3 w v ms) (hok : D3.MemsOk ms.length ms) :
    Calls Tryz.prog 71 #[.agg #[v], .int .i64 (s : Int)] w fun e w' => e = .returned (.int .i64 0) ∧ Below w.heap.size w w' := by
  obtain ⟨A, c, rfl⟩ := h.slice
  have hb1 : Below w.heap.size w (w.alloc (.cells #[.slice A ms.length c] 27)) := balloc (bref w) _
  have k0 : (w.alloc (.cells #[.slice A ms.length c] 27)).heap[w.heap.size]? = some (.cells #[.slice A ms.length c] 27 (0, 0)) := alloc_at rfl
  have hp2 : 2 ^ ms.length ≤ 2 ^ 10 := Nat.pow_le_pow_right (by omega) hl
  have hs10 : s < 1024 := by omega
  have HMR := Lib.hid (fun W => rdmembers_run A ms.length c hl W)
  obtain ⟨M, hM⟩ : ∃ M, 2 ^ ms.length - 1 = M := ⟨_, rfl⟩
  have hsM : ¬ (M : Int) < (s : Int) := by omega
  rw [hM] at HMR
  clear hM
  have hs0 : ¬ (s : Int) < 0 := by omega
  have H := Lib.hid (h.below hb1)
  have HB := Lib.hid hb1
  have K0 := Lib.hid k0
  have HOK := Lib.hid hok
  have HS := Lib.hid hs
  clear h hb1 k0 hp2 hs hok
  go_enter Tryz.func71, Tryz.ntmps71
  go_upto_region 1 with fail
  generalize w.alloc (.cells #[.slice A ms.length c] 27) = W1 at *
  generalize hg : w.heap.size = g at *
  have HG := Lib.hid hg
  clear hg
  have c0 : W1.cell? ⟨g, 0, none⟩ = some (.slice A ms.length c) := cell_of_row _ _ 0 _ _ (0, 0) K0.out
  have HBw := Lib.hid (show Below w.heap.size w W1 by rw [HG.out]; exact HB.out)
  go_wp2_with fail
  refine (HMR.out _).mono ?_
  rintro e W2x ⟨rfl, hbx⟩
  have c1 := (hbx.cell (cell_lt c0)).trans c0
  have HB1 := Lib.hid (bstep HBw.out hbx)
  have H1 := Lib.hid (H.out.below hbx)
  clear hbx c0
  go_wp2_with fail
  go_ret
  exact ⟨rfl, HB1.out⟩

set_option maxRecDepth 100000 in
set_option maxHeartbeats 2000000 in
theorem rdints_run (P : Nat → Prop) (ms : List Mem) (v : Value) (s : Nat) (w : World) (hl : ms.length ≤ 10) (hs : s < 2 ^ ms.length) (h : MemsAt P 3 w v ms) (hok : D3.MemsOk ms.length ms) :
    Calls Tryz.prog 32 #[.agg #[v], .int .i64 (s : Int)] w fun e w' => (∃ x : Bool, e = .returned (.tuple #[.bool x, .int .i64 0]) ∧ (x = true ↔ InT (D3.delM s ms))) ∧ Below w.heap.size w w' := by
  obtain ⟨A, c, rfl⟩ := h.slice
  have hb1 : Below w.heap.size w (w.alloc (.cells #[.slice A ms.length c] 27)) := balloc (bref w) _
  have k0 : (w.alloc (.cells #[.slice A ms.length c] 27)).heap[w.heap.size]? = some (.cells #[.slice A ms.length c] 27 (0, 0)) := alloc_at rfl
  have hp2 : 2 ^ ms.length ≤ 2 ^ 10 := Nat.pow_le_pow_right (by omega) hl
  have hs10 : s < 1024 := by omega
  have H := Lib.hid (h.below hb1)
  have HB := Lib.hid hb1
  have K0 := Lib.hid k0
  have HOK := Lib.hid hok
  have HS := Lib.hid hs
  clear h hb1 k0 hp2 hs hok
  go_enter Tryz.func32, Tryz.ntmps32
  go_upto_region 1 with fail
  generalize w.alloc (.cells #[.slice A ms.length c] 27) = W1 at *
  generalize hg : w.heap.size = g at *
  have HG := Lib.hid hg
  clear hg
  have c0 : W1.cell? ⟨g, 0, none⟩ = some (.slice A ms.length c) := cell_of_row _ _ 0 _ _ (0, 0) K0.out
  have HBw := Lib.hid (show Below w.heap.size w W1 by rw [HG.out]; exact HB.out)
  go_wp2_with fail
  refine (D3.rcvalid_run P ms _ _ hl H.out HOK.out).mono ?_
  rintro e W2x ⟨rfl, hbx⟩
  have c1 := (hbx.cell (cell_lt c0)).trans c0
  have HB1 := Lib.hid (bstep HBw.out hbx)
  have H1 := Lib.hid (H.out.below hbx)
  clear hbx c0
  go_wp2_with fail
  refine (rdset_run P ms _ s _ hl HS.out H1.out HOK.out).mono ?_
  rintro e W3x ⟨rfl, hbx⟩
  have c2 := (hbx.cell (cell_lt c1)).trans c1
  have HB2 := Lib.hid (bstep HB1.out hbx)
  have H2 := Lib.hid (H1.out.below hbx)
  clear hbx c1
  go_wp2_with fail
  refine (D3.rdelete_run P ms _ s _ hl hs10 H2.out HOK.out).mono ?_
  rintro e Wd ⟨vd, rfl, hmd, hbd⟩
  have HMD := Lib.hid hmd
  have HBD := Lib.hid (bstep HB2.out hbd)
  clear hbd hmd c2
  go_wp2_with fail
  refine (D3.rholds_run _ (D3.delM s ms) _ _ (by rw [D3.delM_len]; exact hl) HMD.out (D3.delM_ok HOK.out)).mono ?_
  rintro e We ⟨⟨x, rfl, hx⟩, hbe⟩
  have HX := Lib.hid (show x = true ↔ InT (D3.delM s ms) from hx)
  have HBE := Lib.hid (bstep HBD.out hbe)
  clear hbe hx
  go_wp2_with fail
  go_ret2
  exact ⟨⟨x, rfl, HX.out⟩, HBE.out⟩

set_option maxRecDepth 100000 in
set_option maxHeartbeats 2000000 in
theorem rdavail_run (P : Nat → Prop) (ms : List Mem) (v : Value) (s : Nat) (w : World) (hl : ms.length ≤ 10) (hs : s < 2 ^ ms.length) (h : MemsAt P 3 w v ms) (hok : D3.MemsOk ms.length ms) :
    Calls Tryz.prog 98 #[.agg #[v], .int .i64 (s : Int)] w fun e w' => (∃ x : Bool, e = .returned (.tuple #[.bool x, .int .i64 0]) ∧ (x = true ↔ AvT ms s)) ∧ Below w.heap.size w w' := by
  obtain ⟨A, c, rfl⟩ := h.slice
  have hb1 : Below w.heap.size w (w.alloc (.cells #[.slice A ms.length c] 27)) := balloc (bref w) _
  have k0 : (w.alloc (.cells #[.slice A ms.length c] 27)).heap[w.heap.size]? = some (.cells #[.slice A ms.length c] 27 (0, 0)) := alloc_at rfl
  have hp2 : 2 ^ ms.length ≤ 2 ^ 10 := Nat.pow_le_pow_right (by omega) hl
  have hs10 : s < 1024 := by omega
  have HMR := Lib.hid (fun W => rdmembers_run A ms.length c hl W)
  have hO := outS_sub ms.length s hl (by omega)
  obtain ⟨M, hM⟩ : ∃ M, 2 ^ ms.length - 1 = M := ⟨_, rfl⟩
  rw [hM] at hO HMR
  clear hM
  have HR := Lib.hid (outS_lt ms.length s hl)
  have HAV := Lib.hid (show AvT ms s ↔ (outS ms.length s = 0 ∨ IsQ 3 ms (outS ms.length s)) from Iff.rfl)
  generalize outS ms.length s = r at hO HR HAV
  have H := Lib.hid (h.below hb1)
  have HB := Lib.hid hb1
  have K0 := Lib.hid k0
  have HOK := Lib.hid hok
  have HS := Lib.hid hs
  clear h hb1 k0 hp2 hs hok
  go_enter Tryz.func98, Tryz.ntmps98
  go_upto_region 1 with fail
  generalize w.alloc (.cells #[.slice A ms.length c] 27) = W1 at *
  generalize hg : w.heap.size = g at *
  have HG := Lib.hid hg
  clear hg
  have c0 : W1.cell? ⟨g, 0, none⟩ = some (.slice A ms.length c) := cell_of_row _ _ 0 _ _ (0, 0) K0.out
  have HBw := Lib.hid (show Below w.heap.size w W1 by rw [HG.out]; exact HB.out)
  go_wp2_with fail
  refine (D3.rcvalid_run P ms _ _ hl H.out HOK.out).mono ?_
  rintro e W2x ⟨rfl, hbx⟩
  have c1 := (hbx.cell (cell_lt c0)).trans c0
  have HB1 := Lib.hid (bstep HBw.out hbx)
  have H1 := Lib.hid (H.out.below hbx)
  clear hbx c0
  go_wp2_with fail
  refine (rdset_run P ms _ s _ hl HS.out H1.out HOK.out).mono ?_
  rintro e W3x ⟨rfl, hbx⟩
  have c2 := (hbx.cell (cell_lt c1)).trans c1
  have HB2 := Lib.hid (bstep HB1.out hbx)
  have H2 := Lib.hid (H1.out.below hbx)
  clear hbx c1
  go_wp2_with fail
  refine (HMR.out _).mono ?_
  rintro e W4x ⟨rfl, hbx⟩
  have c3 := (hbx.cell (cell_lt c2)).trans c2
  have HB3 := Lib.hid (bstep HB2.out hbx)
  have H3 := Lib.hid (H2.out.below hbx)
  clear hbx c2
  by_cases hr0 : r = 0
  · subst hr0
    go_wp2_with fail
    go_ret2
    exact ⟨⟨true, rfl, iff_of_true rfl (HAV.out.2 (.inl (by first | rfl | trivial)))⟩, HB3.out⟩
  · have hr0i : ¬ (r : Int) = 0 := by omega
    go_wp2_with fail
    refine (rquorum_run P 3 ms _ r _ hl HR.out H3.out).mono ?_
    rintro e Wq ⟨b, rfl, hq, hbq⟩
    have HQ := Lib.hid hq
    have HBQ := Lib.hid (bstep HB3.out hbq)
    clear hbq hq
    go_wp2_with fail
    go_ret2
    exact ⟨⟨((r : Int) == 0 || b), rfl, (show ((r : Int) == 0 || b) = true ↔ b = true by rw [show ((r : Int) == 0) = false by simpa using hr0]; simp).trans <| HQ.out.trans (Iff.trans ⟨fun h => Or.inr h, fun h => h.resolve_left hr0⟩ HAV.out.symm)⟩, HBQ.out⟩

set_option maxRecDepth 100000 in
set_option maxHeartbeats 8000000 in
theorem rdvalid_run (P Q : Nat → Prop) (ls hs : List Mem) (vl vh : Value) (w : World) (hl : ls.length ≤ 7) (h1 : MemsAt P 3 w vl ls) (h2 : MemsAt Q 3 w vh hs) (hp : PairM ls hs) :
    Calls Tryz.prog 97 #[.agg #[vl], .agg #[vh]] w fun e w' => e = .returned (.int .i64 0) ∧ Below w.heap.size w w' := by
  obtain ⟨A, c, rfl⟩ := h1.slice
  obtain ⟨B, d, rfl⟩ := h2.slice
  have hlen := hp.len
  have hokl := hp.okl
  have hokh := hp.okh
  have hdec := hp.decl
  have HDL := Lib.hid (fun W (h : MemsAt P 3 W (.slice A ls.length c) ls) => rdeclared_run P 3 ls _ W (by omega) h)
  have HDH := Lib.hid (fun W (h : MemsAt Q 3 W (.slice B hs.length d) hs) => rdeclared_run Q 3 hs _ W (by omega) h)
  rw [hdec] at HDH
  rw [hlen] at h2 HDH hokh ⊢
  obtain ⟨n, hn⟩ : ∃ n, ls.length = n := ⟨_, rfl⟩
  have HN := Lib.hid hn
  have HNH := Lib.hid hlen
  rw [hn] at HNH
  have HD := Lib.hid (fun k (h : (declS ls ls.length).testBit k = true) => declS_bit h)
  have HDM := Lib.hid (fun k (h : (declS ls ls.length).testBit k = true) => declS_memD h)
  have hDl : declS ls ls.length < 1024 := declS_lt ls _ (by omega)
  generalize declS ls ls.length = D at HDL HDH hDl HD HDM
  rw [hn] at h1 h2 HDL HDH hokl hokh hl HD ⊢
  have HP := Lib.hid hp
  have HOL := Lib.hid hokl
  have HOH := Lib.hid hokh
  have HPA := Lib.hid (PA.new h1 h2)
  clear h1 h2 hp hokl hokh hn hdec hlen
  go_enter Tryz.func97, Tryz.ntmps97
  go_upto_region 1 with fail
  generalize ((w.alloc (.cells #[.slice A n c] 27)).alloc (.cells #[.slice B n d] 27)) = W1 at *
  generalize w.heap.size = g at HPA ⊢
  have l0 := HPA.out.cs.1
  have h0 := HPA.out.cs.2.1
  go_wp2_with fail
  refine (D3.rcvalid_run P ls _ _ (by rw [HN.out]; omega) HPA.out.ml (by rw [HN.out]; exact HOL.out)).mono ?_
  rintro e W1x ⟨rfl, hbx⟩
  have HPA1 := Lib.hid (HPA.out.to hbx)
  clear hbx l0 h0
  have l1 := HPA1.out.cs.1
  have h1 := HPA1.out.cs.2.1
  go_wp2_with fail
  refine (D3.rcvalid_run Q hs _ _ (by rw [HNH.out]; omega) HPA1.out.mh (by rw [HNH.out]; exact HOH.out)).mono ?_
  rintro e W2x ⟨rfl, hbx⟩
  have HPA2 := Lib.hid (HPA1.out.to hbx)
  clear hbx l1 h1
  have l2 := HPA2.out.cs.1
  have h2 := HPA2.out.cs.2.1
  go_upto_region 7 with fail
  have hS := Lib.hid (HPA2.out.to (bdrew (bref W2x))).cs
  go_region_held3 (fun W => W.cell? ⟨g, 0, none⟩ = some (.slice A n c) ∧ W.cell? ⟨g + 1, 0, none⟩ = some (.slice B n d) ∧ PA P Q w g (.slice A n c) (.slice B n d) ls hs W) (first | exact hS.out | exact hSK | exact paKeep (by assumption) hbK | go_keep)
    (first
      | (go_at_call_of 20 (Value.agg #[.slice A n c]); refine (HDL.out _ (by exact (paSelf (by assumption)).ml)).mono ?_; rintro e WK ⟨rfl, hbK⟩; have hSK := paKeep (by assumption) hbK)
      | (go_at_call_of 20 (Value.agg #[.slice B n d]); refine (HDH.out _ (by exact (paSelf (by assumption)).mh)).mono ?_; rintro e WK ⟨rfl, hbK⟩; have hSK := paKeep (by assumption) hbK))
  all_goals
    have hpa := paSelf (vl := .slice A n c) (vh := .slice B n d) (by assumption)
    have HPA4 := Lib.hid hpa
    have l0 := hpa.cs.1
    have hN7 : 2 ^ n ≤ 2 ^ 7 := Nat.pow_le_pow_right (by decide) hl
    have HMR := Lib.hid (fun W => rdmembers_run A n c (by omega) W)
    have hp1 : 1 ≤ 2 ^ n := Nat.one_le_two_pow
    obtain ⟨M, hM⟩ : ∃ M, 2 ^ n - 1 = M := ⟨_, rfl⟩
    have hM2 : M < 128 := by omega
    rw [hM] at HMR
    clear hpa hS hM hp1 hN7
    go_wp2_with fail
    go_loopw [40] (fun t W => ∃ k : Nat, k ≤ n ∧ t = .int .i64 (k : Int) ∧ Hid (PA P Q w g (.slice A n c) (.slice B n d) ls hs W)) (fun t _ => n - (intOf t).toNat)
    case atStart => exact ⟨0, Nat.zero_le _, rfl, HPA4⟩
    case round =>
      obtain ⟨k, hk, rfl, hPr⟩ := hrel
      clear l0
      by_cases hlt : k < n
      · have hpa := hPr.out
        obtain ⟨lm, hlm⟩ : ∃ x, ls[k]? = some x := ⟨_, List.getElem?_eq_getElem (by rw [HN.out]; exact hlt)⟩
        obtain ⟨hm2, hhm⟩ : ∃ x, hs[k]? = some x := ⟨_, List.getElem?_eq_getElem (by rw [HNH.out]; exact hlt)⟩
        obtain ⟨A', c', hA', hL⟩ := hpa.ml
        injection hA' with r1 r2 r3
        subst r1
        obtain ⟨b, off, u0, u1, u2, rfl, _, f0, f1, f2, f3, hT⟩ := hL k lm hlm
        obtain ⟨B', d', hB', hH⟩ := hpa.mh
        injection hB' with s1 s2 s3
        subst s1
        obtain ⟨b', off', v0, v1, v2, rfl, _, _, k1, k2, k3, hU⟩ := hH k hm2 hhm
        obtain ⟨t0, a1, n1, x1, a2, n2, x2, rfl, rfl, rfl⟩ := hT.form
        obtain ⟨t', b1, m1, z1, b2, m2, z2, rfl, rfl, rfl⟩ := hU.form
        have l0 := hpa.cs.1
        have HST := Lib.hid (show SV P Q w g b off b' off' k n c d t0 t' (.slice a1 n1 x1) (.slice a2 n2 x2) (.slice b1 m1 z1) (.slice b2 m2 z2) lm.2 hm2.2 ls hs wr from ⟨hpa.cs.1, hpa.cs.2.1, f1, f2, f3, k1, k2, k3, hpa, hT, hU⟩)
        have HIMP := Lib.hid (fun (hd : lm.1 = true) => HP.out.sat hlm hhm hd)
        obtain ⟨dc, T⟩ := lm
        clear hL hH hT hU f1 f2 f3 k1 k2 k3 r2 r3 s2 s3 hlm hhm
        cases dc
        · go_wp2_with fail
          go_roundw
          case rel => exact ⟨k + 1, hlt, by go_num, hPr⟩
          case measure => simp [intOf]; omega
        · obtain ⟨wo, hwo⟩ : ∃ wo : World, wo = wr := ⟨_, rfl⟩
          go_wp2_with fail
          subst hwo
          clear f0 l0
          go_loopw [8] (fun t W => ∃ j : Nat, j ≤ M + 1 ∧ t = .int .i64 (j : Int) ∧ Hid (SV P Q w g b off b' off' k n c d t0 t' (.slice a1 n1 x1) (.slice a2 n2 x2) (.slice b1 m1 z1) (.slice b2 m2 z2) T hm2.2 ls hs W)) (fun t _ => M + 1 - (intOf t).toNat)
          case atStart => exact ⟨0, by omega, rfl, HST⟩
          case round =>
            obtain ⟨j, hj, rfl, hSV⟩ := hrel
            have l1 := hSV.out.1
            go_wp2_with fail
            refine (HMR.out _).mono ?_
            rintro e W8 ⟨rfl, hb8⟩
            have HS8 := Lib.hid (SV.keep hSV.out hb8)
            clear hb8 l1
            by_cases hlt2 : j ≤ M
            · have hlti : (j : Int) ≤ (M : Int) := by omega
              obtain ⟨l1, l2, f1, f2, f3, k1, k2, k3, hq⟩ := HS8.out
              have HQ8 := Lib.hid hq
              clear hq
              go_wp2_with fail
              refine (rsat_run Q 3 hm2.2 _ _ _ j _ (by omega) HQ8.out.2.2).mono ?_
              rintro e W9 ⟨rfl, hb9⟩
              have HS9 := Lib.hid (SV.keep HS8.out hb9)
              obtain ⟨sb, hsb⟩ : ∃ sb, satB 3 hm2.2 ((j : Nat) : Int) = sb := ⟨_, rfl⟩
              have HSB := Lib.hid hsb
              rw [hsb]
              clear hb9 hsb l1 l2 f1 f2 f3 k1 k2 k3
              cases sb
              · go_wp2_with fail
                go_roundw
                case rel => exact ⟨j + 1, by omega, by go_num, HS9⟩
                case measure => simp [intOf]; omega
              · obtain ⟨l1, l2, f1, f2, f3, k1, k2, k3, hq⟩ := HS9.out
                have HQ9 := Lib.hid hq
                clear hq
                go_wp2_with fail
                refine (rsat_run P 3 T _ _ _ j _ (by omega) HQ9.out.2.1).mono ?_
                rintro e W10 ⟨rfl, hb10⟩
                rw [HIMP.out (by first | rfl | trivial) j (by omega) HSB.out]
                have HS10 := Lib.hid (SV.keep HS9.out hb10)
                clear hb10 l1 l2 f1 f2 f3 k1 k2 k3
                go_wp2_with fail
                go_roundw
                case rel => exact ⟨j + 1, by omega, by go_num, HS10⟩
                case measure => simp [intOf]; omega
            · have hlti : ¬ (j : Int) ≤ (M : Int) := by omega
              have HPZ := Lib.hid (svL HS8.out).1
              go_wp2_with fail
              go_roundw
              case rel => exact ⟨k + 1, hlt, by go_num, HPZ⟩
              case measure => simp [intOf]; omega
      · obtain rfl : k = n := by omega
        have HBF := Lib.hid hPr.out.bel
        go_wp2_with fail
        go_ret
        exact ⟨rfl, HBF.out⟩

set_option maxRecDepth 100000 in
set_option maxHeartbeats 4000000 in
theorem rdbegin_run (P Q : Nat → Prop) (ls hs : List Mem) (vl vh : Value) (s : Nat) (hsx : s < 2 ^ ls.length) (w : World) (hl : ls.length ≤ 7) (h1 : MemsAt P 3 w vl ls) (h2 : MemsAt Q 3 w vh hs) (hp : PairM ls hs) :
    Calls Tryz.prog 56 #[.agg #[vl], .agg #[vh], .int .i64 (s : Int)] w fun e w' => e = .returned (.int .i64 0) ∧ Below w.heap.size w w' := by
  have HS := Lib.hid hsx
  clear hsx
  obtain ⟨A, c, rfl⟩ := h1.slice
  obtain ⟨B, d, rfl⟩ := h2.slice
  have hlen := hp.len
  have hokl := hp.okl
  have hokh := hp.okh
  have hdec := hp.decl
  have HDL := Lib.hid (fun W (h : MemsAt P 3 W (.slice A ls.length c) ls) => rdeclared_run P 3 ls _ W (by omega) h)
  have HDH := Lib.hid (fun W (h : MemsAt Q 3 W (.slice B hs.length d) hs) => rdeclared_run Q 3 hs _ W (by omega) h)
  rw [hdec] at HDH
  rw [hlen] at h2 HDH hokh ⊢
  obtain ⟨n, hn⟩ : ∃ n, ls.length = n := ⟨_, rfl⟩
  have HN := Lib.hid hn
  have HNH := Lib.hid hlen
  rw [hn] at HNH
  have HD := Lib.hid (fun k (h : (declS ls ls.length).testBit k = true) => declS_bit h)
  have HDM := Lib.hid (fun k (h : (declS ls ls.length).testBit k = true) => declS_memD h)
  have hDl : declS ls ls.length < 1024 := declS_lt ls _ (by omega)
  generalize declS ls ls.length = D at HDL HDH hDl HD HDM
  rw [hn] at h1 h2 HDL HDH hokl hokh hl HD ⊢
  have HP := Lib.hid hp
  have HOL := Lib.hid hokl
  have HOH := Lib.hid hokh
  have HPA := Lib.hid (PA.new h1 h2)
  clear h1 h2 hp hokl hokh hn hdec hlen
  go_enter Tryz.func56, Tryz.ntmps56
  go_upto_region 1 with fail
  generalize ((w.alloc (.cells #[.slice A n c] 27)).alloc (.cells #[.slice B n d] 27)) = W1 at *
  generalize w.heap.size = g at HPA ⊢
  have l0 := HPA.out.cs.1
  have h0 := HPA.out.cs.2.1
  go_wp2_with fail
  refine (rdvalid_run P Q ls hs _ _ _ (by rw [HN.out]; exact hl) HPA.out.ml HPA.out.mh HP.out).mono ?_
  rintro e W1x ⟨rfl, hbx⟩
  have HPA1 := Lib.hid (HPA.out.to hbx)
  clear hbx l0 h0
  have l1 := HPA1.out.cs.1
  have h1 := HPA1.out.cs.2.1
  go_wp2_with fail
  refine (rdset_run P ls _ s _ (by rw [HN.out]; omega) HS.out HPA1.out.ml (by rw [HN.out]; exact HOL.out)).mono ?_
  rintro e W2x ⟨rfl, hbx⟩
  have HPA2 := Lib.hid (HPA1.out.to hbx)
  clear hbx l1 h1
  have l2 := HPA2.out.cs.1
  have h2 := HPA2.out.cs.2.1
  go_wp2_with fail
  go_ret
  exact ⟨rfl, HPA2.out.bel⟩

set_option maxRecDepth 100000 in
set_option maxHeartbeats 4000000 in
theorem rdis_run (P Q : Nat → Prop) (ls hs : List Mem) (vl vh : Value) (s : Nat) (hsx : s < 2 ^ ls.length) (w : World) (hl : ls.length ≤ 7) (h1 : MemsAt P 3 w vl ls) (h2 : MemsAt Q 3 w vh hs) (hp : PairM ls hs) :
    Calls Tryz.prog 57 #[.agg #[vl], .agg #[vh], .int .i64 (s : Int)] w fun e w' => (∃ x : Bool, e = .returned (.bool x) ∧ (x = true ↔ AvT hs s ∧ InT (D3.delM s ls))) ∧ Below w.heap.size w w' := by
  have HS := Lib.hid hsx
  clear hsx
  obtain ⟨A, c, rfl⟩ := h1.slice
  obtain ⟨B, d, rfl⟩ := h2.slice
  have hlen := hp.len
  have hokl := hp.okl
  have hokh := hp.okh
  have hdec := hp.decl
  have HDL := Lib.hid (fun W (h : MemsAt P 3 W (.slice A ls.length c) ls) => rdeclared_run P 3 ls _ W (by omega) h)
  have HDH := Lib.hid (fun W (h : MemsAt Q 3 W (.slice B hs.length d) hs) => rdeclared_run Q 3 hs _ W (by omega) h)
  rw [hdec] at HDH
  rw [hlen] at h2 HDH hokh ⊢
  obtain ⟨n, hn⟩ : ∃ n, ls.length = n := ⟨_, rfl⟩
  have HN := Lib.hid hn
  have HNH := Lib.hid hlen
  rw [hn] at HNH
  have HD := Lib.hid (fun k (h : (declS ls ls.length).testBit k = true) => declS_bit h)
  have HDM := Lib.hid (fun k (h : (declS ls ls.length).testBit k = true) => declS_memD h)
  have hDl : declS ls ls.length < 1024 := declS_lt ls _ (by omega)
  generalize declS ls ls.length = D at HDL HDH hDl HD HDM
  rw [hn] at h1 h2 HDL HDH hokl hokh hl HD ⊢
  have HP := Lib.hid hp
  have HOL := Lib.hid hokl
  have HOH := Lib.hid hokh
  have HPA := Lib.hid (PA.new h1 h2)
  clear h1 h2 hp hokl hokh hn hdec hlen
  go_enter Tryz.func57, Tryz.ntmps57
  go_upto_region 1 with fail
  generalize ((w.alloc (.cells #[.slice A n c] 27)).alloc (.cells #[.slice B n d] 27)) = W1 at *
  generalize w.heap.size = g at HPA ⊢
  have l0 := HPA.out.cs.1
  have h0 := HPA.out.cs.2.1
  go_wp2_with fail
  refine (rdavail_run Q hs _ s _ (by rw [HNH.out]; omega) (by rw [HP.out.len]; exact HS.out) HPA.out.mh (by rw [HNH.out]; exact HOH.out)).mono ?_
  rintro e W1x ⟨⟨x, rfl, hx⟩, hbx⟩
  have HPA1 := Lib.hid (HPA.out.to hbx)
  clear hbx l0 h0
  have l1 := HPA1.out.cs.1
  have h1 := HPA1.out.cs.2.1
  have HX := Lib.hid hx
  clear hx
  cases x
  · go_wp2_with fail
    go_ret
    exact ⟨⟨false, rfl, iff_of_false (by simp) (fun h => by have := HX.out.2 h.1; cases this)⟩, HPA1.out.bel⟩
  · go_wp2_with fail
    refine (rdints_run P ls _ s _ (by rw [HN.out]; omega) HS.out HPA1.out.ml (by rw [HN.out]; exact HOL.out)).mono ?_
    rintro e W2x ⟨⟨y, rfl, hy⟩, hbx⟩
    have HPA2 := Lib.hid (HPA1.out.to hbx)
    clear hbx l1 h1
    have l2 := HPA2.out.cs.1
    have h2 := HPA2.out.cs.2.1
    have HY := Lib.hid hy
    clear hy
    go_wp2_with fail
    go_ret
    exact ⟨⟨y, rfl, HY.out.trans ⟨fun h => ⟨HX.out.1 (by first | rfl | trivial), h⟩, fun h => h.2⟩⟩, HPA2.out.bel⟩

set_option maxRecDepth 100000 in
set_option maxHeartbeats 4000000 in
theorem rdIs_run (P Q : Nat → Prop) (ls hs : List Mem) (vl vh : Value) (s : Nat) (hsx : s < 2 ^ ls.length) (w : World) (hl : ls.length ≤ 7) (h1 : MemsAt P 3 w vl ls) (h2 : MemsAt Q 3 w vh hs) (hp : PairM ls hs) :
    Calls Tryz.prog 22 #[.agg #[vl], .agg #[vh], .int .i64 (s : Int)] w fun e w' => (∃ x : Bool, e = .returned (.tuple #[.bool x, .int .i64 0]) ∧ (x = true ↔ AvT hs s ∧ InT (D3.delM s ls))) ∧ Below w.heap.size w w' := by
  have HS := Lib.hid hsx
  clear hsx
  obtain ⟨A, c, rfl⟩ := h1.slice
  obtain ⟨B, d, rfl⟩ := h2.slice
  have hlen := hp.len
  have hokl := hp.okl
  have hokh := hp.okh
  have hdec := hp.decl
  have HDL := Lib.hid (fun W (h : MemsAt P 3 W (.slice A ls.length c) ls) => rdeclared_run P 3 ls _ W (by omega) h)
  have HDH := Lib.hid (fun W (h : MemsAt Q 3 W (.slice B hs.length d) hs) => rdeclared_run Q 3 hs _ W (by omega) h)
  rw [hdec] at HDH
  rw [hlen] at h2 HDH hokh ⊢
  obtain ⟨n, hn⟩ : ∃ n, ls.length = n := ⟨_, rfl⟩
  have HN := Lib.hid hn
  have HNH := Lib.hid hlen
  rw [hn] at HNH
  have HD := Lib.hid (fun k (h : (declS ls ls.length).testBit k = true) => declS_bit h)
  have HDM := Lib.hid (fun k (h : (declS ls ls.length).testBit k = true) => declS_memD h)
  have hDl : declS ls ls.length < 1024 := declS_lt ls _ (by omega)
  generalize declS ls ls.length = D at HDL HDH hDl HD HDM
  rw [hn] at h1 h2 HDL HDH hokl hokh hl HD ⊢
  have HP := Lib.hid hp
  have HOL := Lib.hid hokl
  have HOH := Lib.hid hokh
  have HPA := Lib.hid (PA.new h1 h2)
  clear h1 h2 hp hokl hokh hn hdec hlen
  go_enter Tryz.func22, Tryz.ntmps22
  go_upto_region 1 with fail
  generalize ((w.alloc (.cells #[.slice A n c] 27)).alloc (.cells #[.slice B n d] 27)) = W1 at *
  generalize w.heap.size = g at HPA ⊢
  have l0 := HPA.out.cs.1
  have h0 := HPA.out.cs.2.1
  go_wp2_with fail
  refine (rdbegin_run P Q ls hs _ _ s HS.out _ (by rw [HN.out]; exact hl) HPA.out.ml HPA.out.mh HP.out).mono ?_
  rintro e W1x ⟨rfl, hbx⟩
  have HPA1 := Lib.hid (HPA.out.to hbx)
  clear hbx l0 h0
  have l1 := HPA1.out.cs.1
  have h1 := HPA1.out.cs.2.1
  go_wp2_with fail
  refine (rdis_run P Q ls hs _ _ s HS.out _ (by rw [HN.out]; exact hl) HPA1.out.ml HPA1.out.mh HP.out).mono ?_
  rintro e W2x ⟨⟨x, rfl, hx⟩, hbx⟩
  have HPA2 := Lib.hid (HPA1.out.to hbx)
  clear hbx l1 h1
  have l2 := HPA2.out.cs.1
  have h2 := HPA2.out.cs.2.1
  have HX := Lib.hid hx
  clear hx
  go_wp2_with fail
  go_ret2
  exact ⟨⟨x, rfl, HX.out⟩, HPA2.out.bel⟩

end Go.Proofs.YtacpfcckilnbfaaGreat

namespace Go.Proofs.YtacpfcckilnbfaaGreat
set_option linter.unusedVariables false
set_option linter.unusedSimpArgs false
open Go.RowKit

def AllOfI (s : Nat) (ls hs : List Mem) (l : List Int) (k : Nat) (L : List Nat) : Prop := L.length ≤ k ∧ ∀ b : Nat, b ∈ L ↔ (b : Int) ∈ l.take k ∧ GoodB s ls hs b

theorem AllOfI.zero (s : Nat) (ls hs : List Mem) (l : List Int) : AllOfI s ls hs l 0 [] := ⟨by simp, fun b => by simp⟩

theorem AllOfI.skip {s : Nat} {ls hs : List Mem} {l : List Int} {L : List Nat} {k b : Nat} (h : AllOfI s ls hs l k L) (hb : l[k]? = some (b : Int)) (hn : ¬ GoodB s ls hs b) : AllOfI s ls hs l (k + 1) L := by
  unfold AllOfI
  rw [List.take_add_one, hb]
  refine ⟨Nat.le_succ_of_le h.1, fun x => ?_⟩
  rw [h.2 x, List.mem_append]
  constructor
  · rintro ⟨h1, h2⟩; exact ⟨.inl h1, h2⟩
  · rintro ⟨h1 | h1, h2⟩
    · exact ⟨h1, h2⟩
    · have : (x : Int) = (b : Int) := by simpa using h1
      rw [Int.ofNat.inj this] at h2; exact absurd h2 hn

theorem AllOfI.add {s : Nat} {ls hs : List Mem} {l : List Int} {L : List Nat} {k b : Nat} (h : AllOfI s ls hs l k L) (hb : l[k]? = some (b : Int)) (hn : GoodB s ls hs b) : AllOfI s ls hs l (k + 1) (L ++ [b]) := by
  unfold AllOfI
  rw [List.take_add_one, hb]
  refine ⟨by simp; exact h.1, fun x => ?_⟩
  rw [List.mem_append, h.2 x, List.mem_append]
  constructor
  · rintro (⟨h1, h2⟩ | h1)
    · exact ⟨.inl h1, h2⟩
    · have : x = b := by simpa using h1
      rw [this]; exact ⟨.inr (by simp), hn⟩
  · rintro ⟨h1 | h1, h2⟩
    · exact .inl ⟨h1, h2⟩
    · have : (x : Int) = (b : Int) := by simpa using h1
      rw [Int.ofNat.inj this]; exact .inr (by simp)

def RAllIs (s : Nat) (ls hs : List Mem) (L : List Nat) : Prop := L.length ≤ 20000 ∧ ∀ b, b ∈ L ↔ b < 2 ^ ls.length ∧ GoodB s ls hs b

theorem ones_sub {n b : Nat} : Sub b (2 ^ n - 1) ↔ b < 2 ^ n := by
  constructor
  · intro h
    refine Nat.lt_pow_two_of_testBit _ (fun k hk => ?_)
    cases hb : b.testBit k
    · rfl
    · have h5 := h k hb
      rw [Nat.testBit_two_pow_sub_one, decide_eq_true_iff] at h5
      omega
  · intro h k hk
    rw [Nat.testBit_two_pow_sub_one, decide_eq_true (lt_bit h hk)]

end Go.Proofs.YtacpfcckilnbfaaGreat

namespace Go.Proofs.YtacpfcckilnbfaaGreat
set_option linter.unusedVariables false
set_option linter.unusedSimpArgs false
open Go.RowKit

theorem of_ill {ls hs : List Mem} {s a : Nat} (hp : PairM ls hs) (hl : ls.length ≤ 10) (hs2 : s < 2 ^ ls.length) (h : OfIs s ls hs a) : a &&& s = 0 := by
  rcases ofIs_iff hp hl hs2 h with ⟨_, h2⟩ | ⟨h1, L, h2, _, ha⟩
  · rw [h2]; simp
  · apply Nat.eq_of_testBit_eq
    intro k
    rw [Nat.testBit_and, Nat.zero_testBit, ha, outS_bit]
    cases hk : s.testBit k
    · simp
    · rw [bf_ill hs2 h2 k hk]; simp

theorem of_none {ls hs : List Mem} {s a : Nat} (h : OfIs s ls hs a) (hn : ¬ InT (D3.delM s ls)) : a = 0 := by
  rcases h with ⟨_, h⟩ | ⟨h, _⟩
  · exact h
  · exact absurd h hn

end Go.Proofs.YtacpfcckilnbfaaGreat

namespace Go.Proofs.YtacpfcckilnbfaaGreat
set_option linter.unusedVariables false
set_option linter.unusedSimpArgs false
open Go.RowKit

theorem quorumI_run (P : Nat → Prop) (ms : List Mem) (v : Value) (s : Int) (w : World) (hl : ms.length ≤ 10) (h : MemsAt P 3 w v ms) :
    Calls Tryz.prog 61 #[.agg #[v], .int .i64 s] w fun e w' => ∃ b : Bool, e = .returned (.bool b) ∧ (b = true → ∃ t : Nat, s = (t : Int) ∧ t < 1024 ∧ IsQ 3 ms t) ∧ Below w.heap.size w w' := by
  cases hs : setB s
  · obtain ⟨A, c, rfl⟩ := h.slice
    have HB := Lib.hid (balloc (bref w) (.cells #[.slice A ms.length c] 27))
    have HS := Lib.hid hs
    clear h hs
    go_enter Tryz.func61, Tryz.ntmps61
    go_upto_region 1 with fail
    generalize w.alloc (.cells #[.slice A ms.length c] 27) = W1 at *
    go_wp2_with fail
    refine (setValid_run _ _).mono ?_
    rintro e w2 ⟨rfl, rfl⟩
    rw [HS.out]
    go_wp2_with fail
    go_ret
    exact ⟨false, rfl, (fun h => by cases h), HB.out⟩
  · obtain ⟨h0, h1⟩ := setB_iff.1 hs
    obtain ⟨t, rfl⟩ := Int.eq_ofNat_of_zero_le h0
    refine (quorum_run P 3 ms v t w hl (by omega) h).mono ?_
    rintro e w' ⟨b, rfl, hb, hbel⟩
    exact ⟨b, rfl, fun hx => ⟨t, rfl, by omega, hb.1 hx⟩, hbel⟩

set_option maxRecDepth 100000 in
set_option maxHeartbeats 4000000 in
theorem dplacksI_run (P : Nat → Prop) (ms : List Mem) (v : Value) (k : Int) (s : Nat) (w : World) (hl : ms.length ≤ 10) (hs : s < 2 ^ ms.length) (h : MemsAt P 3 w v ms) :
    Calls Tryz.prog 58 #[.agg #[v], .int .i64 k, .int .i64 (s : Int)] w fun e w' => ∃ b : Bool, e = .returned (.bool b) ∧ (b = true → ∃ j : Nat, k = (j : Int) ∧ j < ms.length ∧ lackB ms s j = true) ∧ Below w.heap.size w w' := by
  by_cases hk : 0 ≤ k ∧ k < (ms.length : Int)
  · obtain ⟨j, rfl⟩ := Int.eq_ofNat_of_zero_le hk.1
    refine (dplacks_run P ms v j s w hl (by omega) hs h).mono ?_
    rintro e w' ⟨rfl, hb⟩
    exact ⟨_, rfl, fun hx => ⟨j, rfl, by omega, hx⟩, hb⟩
  · obtain ⟨A, c, rfl⟩ := h.slice
    have hb1 : Below w.heap.size w (w.alloc (.cells #[.slice A ms.length c] 27)) := balloc (bref w) _
    have k0 : (w.alloc (.cells #[.slice A ms.length c] 27)).heap[w.heap.size]? = some (.cells #[.slice A ms.length c] 27 (0, 0)) := alloc_at rfl
    have hp2 : 2 ^ ms.length ≤ 2 ^ 10 := Nat.pow_le_pow_right (by omega) hl
    have han : bits .andNot .i64 ((2 ^ ms.length - 1 : Nat) : Int) (s : Int) = ((outS ms.length s : Nat) : Int) := andNot_nat (2 ^ ms.length - 1) s (by omega) (by omega)
    have HMR := Lib.hid (fun W => dpmembers_run A ms.length c hl W)
    have HHB := Lib.hid (show hasB ((outS ms.length s : Nat) : Int) k = false from by
      cases hh : hasB ((outS ms.length s : Nat) : Int) k
      · rfl
      · have hn : nodeB k = true := by
          unfold hasB at hh
          rw [Bool.and_eq_true, Bool.and_eq_true] at hh
          first | exact hh.2.1 | exact hh.1.2
        obtain ⟨h0, h1⟩ := nodeB_iff.1 hn
        obtain ⟨j, rfl⟩ := Int.eq_ofNat_of_zero_le h0
        rw [hasB_bit (outS_lt ms.length s hl) (by omega), outS_bit, Bool.and_eq_true, decide_eq_true_iff] at hh
        exact absurd ⟨h0, by omega⟩ hk)
    generalize outS ms.length s = r at han HHB
    obtain ⟨M, hM⟩ : ∃ M, 2 ^ ms.length - 1 = M := ⟨_, rfl⟩
    rw [hM] at han HMR
    have HB := Lib.hid hb1
    have K0 := Lib.hid k0
    clear h hb1 k0 hp2 hs hM hk
    go_enter Tryz.func58, Tryz.ntmps58
    go_upto_region 1 with fail
    generalize w.alloc (.cells #[.slice A ms.length c] 27) = W1 at *
    generalize hg : w.heap.size = g at *
    have HG := Lib.hid hg
    clear hg
    have c0 : W1.cell? ⟨g, 0, none⟩ = some (.slice A ms.length c) := cell_of_row _ _ 0 _ _ (0, 0) K0.out
    have HBw := Lib.hid (show Below w.heap.size w W1 by rw [HG.out]; exact HB.out)
    go_wp2_with fail
    refine (HMR.out _).mono ?_
    rintro e W2 ⟨rfl, hb2⟩
    have HB2 := Lib.hid (bstep HBw.out hb2)
    clear hb2 c0
    go_wp2_with fail
    refine (has_run _ _ _).mono ?_
    rintro e W3 ⟨rfl, rfl⟩
    rw [HHB.out]
    go_wp2_with fail
    go_ret
    exact ⟨false, rfl, (fun h => by cases h), HB2.out⟩

/-- A refutation that is right. -/
def RefOk (s : Nat) (ls hs : List Mem) : Prop := (∃ k, k < ls.length ∧ lackB hs s k = true) ∨ ∃ t q : Nat, IsQ 3 (D3.delM s ls) t ∧ IsQ 3 (D3.delM s ls) q ∧ t &&& q = 0

set_option maxRecDepth 100000 in
set_option maxHeartbeats 4000000 in
theorem dpcheckI_run (P Q : Nat → Prop) (ls hs : List Mem) (vl vh : Value) (s : Nat) (x0 x1 x2 : Int) (hsx : s < 2 ^ ls.length) (w : World) (hl : ls.length ≤ 7) (h1 : MemsAt P 3 w vl ls) (h2 : MemsAt Q 3 w vh hs) (hp : PairM ls hs) :
    Calls Tryz.prog 25 #[.agg #[vl], .agg #[vh], .int .i64 (s : Int), .agg #[.int .i64 x0, .int .i64 x1, .int .i64 x2]] w fun e w' => (∃ b : Bool, e = .returned (.bool b) ∧ (b = true → RefOk s ls hs)) ∧ Below w.heap.size w w' := by
  have HS := Lib.hid hsx
  clear hsx
  obtain ⟨A, c, rfl⟩ := h1.slice
  obtain ⟨B, d, rfl⟩ := h2.slice
  have hlen := hp.len
  have hokl := hp.okl
  have hokh := hp.okh
  have hdec := hp.decl
  have HDL := Lib.hid (fun W (h : MemsAt P 3 W (.slice A ls.length c) ls) => declared_run P 3 ls _ W (by omega) h)
  have HDH := Lib.hid (fun W (h : MemsAt Q 3 W (.slice B hs.length d) hs) => declared_run Q 3 hs _ W (by omega) h)
  rw [hdec] at HDH
  rw [hlen] at h2 HDH hokh ⊢
  obtain ⟨n, hn⟩ : ∃ n, ls.length = n := ⟨_, rfl⟩
  have HN := Lib.hid hn
  have HNH := Lib.hid hlen
  rw [hn] at HNH
  have HD := Lib.hid (fun k (h : (declS ls ls.length).testBit k = true) => declS_bit h)
  have HDM := Lib.hid (fun k (h : (declS ls ls.length).testBit k = true) => declS_memD h)
  have hDl : declS ls ls.length < 1024 := declS_lt ls _ (by omega)
  generalize declS ls ls.length = D at HDL HDH hDl HD HDM
  rw [hn] at h1 h2 HDL HDH hokl hokh hl HD ⊢
  have HP := Lib.hid hp
  have HOL := Lib.hid hokl
  have HOH := Lib.hid hokh
  have hpn := PA.new h1 h2
  have hz2 : ((w.alloc (.cells #[.slice A n c] 27)).alloc (.cells #[.slice B n d] 27)).heap.size = w.heap.size + 2 := by rw [alloc_sz, alloc_sz]
  have HPA := Lib.hid (hpn.to (balloc (bref _) (.cells #[.int .i64 x0, .int .i64 x1, .int .i64 x2] 42)))
  have HRB := Lib.hid (show (((w.alloc (.cells #[.slice A n c] 27)).alloc (.cells #[.slice B n d] 27)).alloc (.cells #[.int .i64 x0, .int .i64 x1, .int .i64 x2] 42)).heap[w.heap.size + 2]? = some (.cells #[.int .i64 x0, .int .i64 x1, .int .i64 x2] 42) from alloc_at hz2)
  clear hpn
  clear h1 h2 hp hokl hokh hn hdec hlen
  go_enter Tryz.func25, Tryz.ntmps25
  go_upto_region 1 with fail
  generalize (((w.alloc (.cells #[.slice A n c] 27)).alloc (.cells #[.slice B n d] 27)).alloc (.cells #[.int .i64 x0, .int .i64 x1, .int .i64 x2] 42)) = W1 at *
  clear hz2
  generalize hg : w.heap.size = g at HPA HRB ⊢
  have HG := Lib.hid hg
  clear hg
  have l0 := HPA.out.cs.1
  have h0 := HPA.out.cs.2.1
  go_wp2_with fail
  refine (dpvpair_run P Q ls hs _ _ s HS.out _ (by rw [HN.out]; exact hl) HPA.out.ml HPA.out.mh HP.out).mono ?_
  rintro e W1x ⟨rfl, hbx⟩
  have HPA1 := Lib.hid (HPA.out.to hbx)
  have HBZ := Lib.hid hbx
  clear hbx l0 h0
  have l1 := HPA1.out.cs.1
  have h1 := HPA1.out.cs.2.1
  have HRB1 := Lib.hid ((HBZ.out.block _ (Array.getElem?_eq_some_iff.1 HRB.out).1).trans HRB.out)
  have hrb := HRB1.out
  have z0_W1x : W1x.cell? ⟨g + 2, 0, none⟩ = some (.int .i64 x0) := cell_of_row _ _ 0 _ _ (0, 0) hrb
  have z1_W1x : W1x.cell? ⟨g + 2, 1, none⟩ = some (.int .i64 x1) := cell_of_row _ _ 1 _ _ (0, 0) hrb
  have z2_W1x : W1x.cell? ⟨g + 2, 2, none⟩ = some (.int .i64 x2) := cell_of_row _ _ 2 _ _ (0, 0) hrb
  clear hrb
  by_cases hx0 : x0 = -1
  · subst hx0
    go_wp2_with fail
    refine (D3.pdelete_run P ls _ s _ (by rw [HN.out]; omega) (by have h := HS.out; have : 2 ^ ls.length ≤ 2 ^ 10 := Nat.pow_le_pow_right (by omega) (by rw [HN.out]; omega); omega) HPA1.out.ml (by rw [HN.out]; exact HOL.out)).mono ?_
    rintro e Wd ⟨vd, rfl, hmd, hbd⟩
    obtain ⟨Ad, cd, rfl⟩ := hmd.slice
    have hdl : (D3.delM s ls).length = n := by rw [D3.delM_len, HN.out]
    rw [hdl] at hmd ⊢
    have HDL2 := Lib.hid hdl
    have hrd := (hbd.block _ (Array.getElem?_eq_some_iff.1 HRB1.out).1).trans HRB1.out
    have hba := balloc (bref Wd) (.cells #[.slice Ad n cd] 27)
    have HKD := Lib.hid (show (Wd.alloc (.cells #[.slice Ad n cd] 27)).heap[Wd.heap.size]? = some (.cells #[.slice Ad n cd] 27 (0, 0)) from alloc_at rfl)
    have HRD := Lib.hid ((hba.block _ (Array.getElem?_eq_some_iff.1 hrd).1).trans hrd)
    have HMD := Lib.hid ((hmd.both (w' := Wd) (Q := fun _ => True) (fun _ _ _ => rfl) (fun _ _ _ => trivial)).below hba)
    have HBD := Lib.hid (HPA1.out.to (bstep hbd hba)).bel
    clear hbd hmd hdl hrd hba l1 h1
    go_upto_region 6 with fail
    generalize (Wd.alloc (.cells #[.slice Ad n cd] 27)) = WD at *
    generalize Wd.heap.size = db at *
    have d0 : WD.cell? ⟨db, 0, none⟩ = some (.slice Ad n cd) := cell_of_row _ _ 0 _ _ (0, 0) HKD.out
    have hrb := HRD.out
    have z0_WD : WD.cell? ⟨g + 2, 0, none⟩ = some (.int .i64 (-1)) := cell_of_row _ _ 0 _ _ (0, 0) hrb
    have z1_WD : WD.cell? ⟨g + 2, 1, none⟩ = some (.int .i64 x1) := cell_of_row _ _ 1 _ _ (0, 0) hrb
    have z2_WD : WD.cell? ⟨g + 2, 2, none⟩ = some (.int .i64 x2) := cell_of_row _ _ 2 _ _ (0, 0) hrb
    clear hrb
    by_cases hz : bits .and .i64 x1 x2 = 0
    · have HZ := Lib.hid hz
      go_wp2_with fail
      refine (quorumI_run _ (D3.delM s ls) _ x1 _ (by rw [HDL2.out]; omega) HMD.out).mono ?_
      rintro e We ⟨q1, rfl, hq1, hbe⟩
      have HQ1 := Lib.hid hq1
      have HBE := Lib.hid (bstep HBD.out hbe)
      have HMD2 := Lib.hid (HMD.out.below hbe)
      have e0 := (hbe.cell (cell_lt d0)).trans d0
      have z2_We := (hbe.cell (cell_lt z2_WD)).trans z2_WD
      clear hbe hq1 d0 z0_WD z1_WD z2_WD
      cases q1
      · go_wp2_with fail
        go_ret
        exact ⟨⟨false, rfl, fun h => by cases h⟩, HBE.out⟩
      · go_wp2_with fail
        refine (quorumI_run _ (D3.delM s ls) _ x2 _ (by rw [HDL2.out]; omega) HMD2.out).mono ?_
        rintro e Wf ⟨q2, rfl, hq2, hbf⟩
        have HBF := Lib.hid (bstep HBE.out hbf)
        have HF := Lib.hid (show q2 = true → RefOk s ls hs from fun h => by
          obtain ⟨t, rfl, ht, h1⟩ := HQ1.out (by first | rfl | trivial)
          obtain ⟨q, rfl, hq, h2⟩ := hq2 h
          refine .inr ⟨t, q, h1, h2, ?_⟩
          have h3 := HZ.out
          rw [i64_and_nat t q (by omega) (by omega)] at h3
          omega)
        clear hbf hq2 e0 z2_We hz
        go_wp2_with fail
        go_ret
        exact ⟨⟨q2, rfl, HF.out⟩, HBF.out⟩
    · go_wp2_with fail
      go_ret
      exact ⟨⟨false, rfl, fun h => by cases h⟩, HBD.out⟩
  · by_cases hx1 : x1 = 0
    · subst hx1
      by_cases hx2 : x2 = 0
      · subst hx2
        go_wp2_with fail
        refine (dplacksI_run Q hs _ x0 s _ (by rw [HNH.out]; omega) (by rw [HP.out.len]; exact HS.out) HPA1.out.mh).mono ?_
        rintro e W7 ⟨b, rfl, hb, hb7⟩
        have HBW := Lib.hid (HPA1.out.to hb7).bel
        have HF := Lib.hid (show b = true → RefOk s ls hs from fun h => by
          obtain ⟨j, _, h1, h2⟩ := hb h
          exact .inl ⟨j, by rw [← HP.out.len]; exact h1, h2⟩)
        clear hb7 hb
        go_wp2_with fail
        go_ret
        exact ⟨⟨b, rfl, HF.out⟩, HBW.out⟩
      · have HBW := Lib.hid HPA1.out.bel
        go_wp2_with fail
        go_ret
        exact ⟨⟨false, rfl, fun h => by cases h⟩, HBW.out⟩
    · have HBW := Lib.hid HPA1.out.bel
      go_wp2_with fail
      go_ret
      exact ⟨⟨false, rfl, fun h => by cases h⟩, HBW.out⟩

end Go.Proofs.YtacpfcckilnbfaaGreat

namespace Go.Proofs.YtacpfcckilnbfaaGreat
set_option linter.unusedVariables false
set_option linter.unusedSimpArgs false
open Go.RowKit


set_option maxRecDepth 100000 in
set_option maxHeartbeats 4000000 in
theorem dpcheckT_run (P Q : Nat → Prop) (ls hs : List Mem) (vl vh : Value) (s a b : Nat) (ha10 : a < 1024) (hb10 : b < 1024) (hqa : IsQ 3 (D3.delM s ls) a) (hqb : IsQ 3 (D3.delM s ls) b) (hab : a &&& b = 0) (hsx : s < 2 ^ ls.length) (w : World) (hl : ls.length ≤ 7) (h1 : MemsAt P 3 w vl ls) (h2 : MemsAt Q 3 w vh hs) (hp : PairM ls hs) :
    Calls Tryz.prog 25 #[.agg #[vl], .agg #[vh], .int .i64 (s : Int), .agg #[.int .i64 (-1), .int .i64 (a : Int), .int .i64 (b : Int)]] w fun e w' => e = .returned (.bool true) ∧ Below w.heap.size w w' := by
  have HS := Lib.hid hsx
  have HQA := Lib.hid hqa
  have HQB := Lib.hid hqb
  have hz : bits .and .i64 (a : Int) (b : Int) = 0 := by rw [i64_and_nat a b (by omega) (by omega), hab]; rfl
  clear hsx hqa hqb hab
  obtain ⟨A, c, rfl⟩ := h1.slice
  obtain ⟨B, d, rfl⟩ := h2.slice
  have hlen := hp.len
  have hokl := hp.okl
  have hokh := hp.okh
  have hdec := hp.decl
  have HDL := Lib.hid (fun W (h : MemsAt P 3 W (.slice A ls.length c) ls) => declared_run P 3 ls _ W (by omega) h)
  have HDH := Lib.hid (fun W (h : MemsAt Q 3 W (.slice B hs.length d) hs) => declared_run Q 3 hs _ W (by omega) h)
  rw [hdec] at HDH
  rw [hlen] at h2 HDH hokh ⊢
  obtain ⟨n, hn⟩ : ∃ n, ls.length = n := ⟨_, rfl⟩
  have HN := Lib.hid hn
  have HNH := Lib.hid hlen
  rw [hn] at HNH
  have HD := Lib.hid (fun k (h : (declS ls ls.length).testBit k = true) => declS_bit h)
  have HDM := Lib.hid (fun k (h : (declS ls ls.length).testBit k = true) => declS_memD h)
  have hDl : declS ls ls.length < 1024 := declS_lt ls _ (by omega)
  generalize declS ls ls.length = D at HDL HDH hDl HD HDM
  rw [hn] at h1 h2 HDL HDH hokl hokh hl HD ⊢
  have HP := Lib.hid hp
  have HOL := Lib.hid hokl
  have HOH := Lib.hid hokh
  have hpn := PA.new h1 h2
  have hz2 : ((w.alloc (.cells #[.slice A n c] 27)).alloc (.cells #[.slice B n d] 27)).heap.size = w.heap.size + 2 := by rw [alloc_sz, alloc_sz]
  have HPA := Lib.hid (hpn.to (balloc (bref _) (.cells #[.int .i64 (-1), .int .i64 (a : Int), .int .i64 (b : Int)] 42)))
  have HRB := Lib.hid (show (((w.alloc (.cells #[.slice A n c] 27)).alloc (.cells #[.slice B n d] 27)).alloc (.cells #[.int .i64 (-1), .int .i64 (a : Int), .int .i64 (b : Int)] 42)).heap[w.heap.size + 2]? = some (.cells #[.int .i64 (-1), .int .i64 (a : Int), .int .i64 (b : Int)] 42) from alloc_at hz2)
  clear hpn
  clear h1 h2 hp hokl hokh hn hdec hlen
  go_enter Tryz.func25, Tryz.ntmps25
  go_upto_region 1 with fail
  generalize (((w.alloc (.cells #[.slice A n c] 27)).alloc (.cells #[.slice B n d] 27)).alloc (.cells #[.int .i64 (-1), .int .i64 (a : Int), .int .i64 (b : Int)] 42)) = W1 at *
  clear hz2
  generalize hg : w.heap.size = g at HPA HRB ⊢
  have HG := Lib.hid hg
  clear hg
  have l0 := HPA.out.cs.1
  have h0 := HPA.out.cs.2.1
  go_wp2_with fail
  refine (dpvpair_run P Q ls hs _ _ s HS.out _ (by rw [HN.out]; exact hl) HPA.out.ml HPA.out.mh HP.out).mono ?_
  rintro e W1x ⟨rfl, hbx⟩
  have HPA1 := Lib.hid (HPA.out.to hbx)
  have HBZ := Lib.hid hbx
  clear hbx l0 h0
  have l1 := HPA1.out.cs.1
  have h1 := HPA1.out.cs.2.1
  have HRB1 := Lib.hid ((HBZ.out.block _ (Array.getElem?_eq_some_iff.1 HRB.out).1).trans HRB.out)
  have hrb := HRB1.out
  have z0_W1x : W1x.cell? ⟨g + 2, 0, none⟩ = some (.int .i64 (-1)) := cell_of_row _ _ 0 _ _ (0, 0) hrb
  have z1_W1x : W1x.cell? ⟨g + 2, 1, none⟩ = some (.int .i64 (a : Int)) := cell_of_row _ _ 1 _ _ (0, 0) hrb
  have z2_W1x : W1x.cell? ⟨g + 2, 2, none⟩ = some (.int .i64 (b : Int)) := cell_of_row _ _ 2 _ _ (0, 0) hrb
  clear hrb
  go_wp2_with fail
  refine (D3.pdelete_run P ls _ s _ (by rw [HN.out]; omega) (by have h := HS.out; have : 2 ^ ls.length ≤ 2 ^ 10 := Nat.pow_le_pow_right (by omega) (by rw [HN.out]; omega); omega) HPA1.out.ml (by rw [HN.out]; exact HOL.out)).mono ?_
  rintro e Wd ⟨vd, rfl, hmd, hbd⟩
  obtain ⟨Ad, cd, rfl⟩ := hmd.slice
  have hdl : (D3.delM s ls).length = n := by rw [D3.delM_len, HN.out]
  rw [hdl] at hmd ⊢
  have HDL2 := Lib.hid hdl
  have hrd := (hbd.block _ (Array.getElem?_eq_some_iff.1 HRB1.out).1).trans HRB1.out
  have hba := balloc (bref Wd) (.cells #[.slice Ad n cd] 27)
  have HKD := Lib.hid (show (Wd.alloc (.cells #[.slice Ad n cd] 27)).heap[Wd.heap.size]? = some (.cells #[.slice Ad n cd] 27 (0, 0)) from alloc_at rfl)
  have HRD := Lib.hid ((hba.block _ (Array.getElem?_eq_some_iff.1 hrd).1).trans hrd)
  have HMD := Lib.hid ((hmd.both (w' := Wd) (Q := fun _ => True) (fun _ _ _ => rfl) (fun _ _ _ => trivial)).below hba)
  have HBD := Lib.hid (HPA1.out.to (bstep hbd hba)).bel
  clear hbd hmd hdl hrd hba l1 h1
  go_upto_region 6 with fail
  generalize (Wd.alloc (.cells #[.slice Ad n cd] 27)) = WD at *
  generalize Wd.heap.size = db at *
  have d0 : WD.cell? ⟨db, 0, none⟩ = some (.slice Ad n cd) := cell_of_row _ _ 0 _ _ (0, 0) HKD.out
  have hrb := HRD.out
  have z0_WD : WD.cell? ⟨g + 2, 0, none⟩ = some (.int .i64 (-1)) := cell_of_row _ _ 0 _ _ (0, 0) hrb
  have z1_WD : WD.cell? ⟨g + 2, 1, none⟩ = some (.int .i64 (a : Int)) := cell_of_row _ _ 1 _ _ (0, 0) hrb
  have z2_WD : WD.cell? ⟨g + 2, 2, none⟩ = some (.int .i64 (b : Int)) := cell_of_row _ _ 2 _ _ (0, 0) hrb
  clear hrb
  go_wp2_with fail
  refine (quorum_run _ 3 (D3.delM s ls) _ a _ (by rw [HDL2.out]; omega) ha10 HMD.out).mono ?_
  rintro e We ⟨q1, rfl, hq1, hbe⟩
  obtain rfl : q1 = true := hq1.2 HQA.out
  have HBE := Lib.hid (bstep HBD.out hbe)
  have HMD2 := Lib.hid (HMD.out.below hbe)
  have e0 := (hbe.cell (cell_lt d0)).trans d0
  have z1_We := (hbe.cell (cell_lt z1_WD)).trans z1_WD
  have z2_We := (hbe.cell (cell_lt z2_WD)).trans z2_WD
  clear hbe hq1 d0 z0_WD z1_WD z2_WD
  go_wp2_with fail
  refine (quorum_run _ 3 (D3.delM s ls) _ b _ (by rw [HDL2.out]; omega) hb10 HMD2.out).mono ?_
  rintro e Wf ⟨q2, rfl, hq2, hbf⟩
  obtain rfl : q2 = true := hq2.2 HQB.out
  have HBF := Lib.hid (bstep HBE.out hbf)
  have z1_Wf := (hbf.cell (cell_lt z1_We)).trans z1_We
  have z2_Wf := (hbf.cell (cell_lt z2_We)).trans z2_We
  clear hbf hq2 e0 z1_We z2_We
  go_wp2_with fail
  go_ret
  exact ⟨rfl, HBF.out⟩

set_option maxRecDepth 100000 in
set_option maxHeartbeats 4000000 in
theorem rdcheckT_run (P Q : Nat → Prop) (ls hs : List Mem) (vl vh : Value) (s a b : Nat) (ha10 : a < 1024) (hb10 : b < 1024) (hqa : IsQ 3 (D3.delM s ls) a) (hqb : IsQ 3 (D3.delM s ls) b) (hab : a &&& b = 0) (hsx : s < 2 ^ ls.length) (w : World) (hl : ls.length ≤ 7) (h1 : MemsAt P 3 w vl ls) (h2 : MemsAt Q 3 w vh hs) (hp : PairM ls hs) :
    Calls Tryz.prog 24 #[.agg #[vl], .agg #[vh], .int .i64 (s : Int), .agg #[.int .i64 (-1), .int .i64 (a : Int), .int .i64 (b : Int)]] w fun e w' => e = .returned (.bool true) ∧ Below w.heap.size w w' := by
  have HS := Lib.hid hsx
  have HQA := Lib.hid hqa
  have HQB := Lib.hid hqb
  have hz : bits .and .i64 (a : Int) (b : Int) = 0 := by rw [i64_and_nat a b (by omega) (by omega), hab]; rfl
  clear hsx hqa hqb hab
  obtain ⟨A, c, rfl⟩ := h1.slice
  obtain ⟨B, d, rfl⟩ := h2.slice
  have hlen := hp.len
  have hokl := hp.okl
  have hokh := hp.okh
  have hdec := hp.decl
  have HDL := Lib.hid (fun W (h : MemsAt P 3 W (.slice A ls.length c) ls) => declared_run P 3 ls _ W (by omega) h)
  have HDH := Lib.hid (fun W (h : MemsAt Q 3 W (.slice B hs.length d) hs) => declared_run Q 3 hs _ W (by omega) h)
  rw [hdec] at HDH
  rw [hlen] at h2 HDH hokh ⊢
  obtain ⟨n, hn⟩ : ∃ n, ls.length = n := ⟨_, rfl⟩
  have HN := Lib.hid hn
  have HNH := Lib.hid hlen
  rw [hn] at HNH
  have HD := Lib.hid (fun k (h : (declS ls ls.length).testBit k = true) => declS_bit h)
  have HDM := Lib.hid (fun k (h : (declS ls ls.length).testBit k = true) => declS_memD h)
  have hDl : declS ls ls.length < 1024 := declS_lt ls _ (by omega)
  generalize declS ls ls.length = D at HDL HDH hDl HD HDM
  rw [hn] at h1 h2 HDL HDH hokl hokh hl HD ⊢
  have HP := Lib.hid hp
  have HOL := Lib.hid hokl
  have HOH := Lib.hid hokh
  have hpn := PA.new h1 h2
  have hz2 : ((w.alloc (.cells #[.slice A n c] 27)).alloc (.cells #[.slice B n d] 27)).heap.size = w.heap.size + 2 := by rw [alloc_sz, alloc_sz]
  have HPA := Lib.hid (hpn.to (balloc (bref _) (.cells #[.int .i64 (-1), .int .i64 (a : Int), .int .i64 (b : Int)] 42)))
  have HRB := Lib.hid (show (((w.alloc (.cells #[.slice A n c] 27)).alloc (.cells #[.slice B n d] 27)).alloc (.cells #[.int .i64 (-1), .int .i64 (a : Int), .int .i64 (b : Int)] 42)).heap[w.heap.size + 2]? = some (.cells #[.int .i64 (-1), .int .i64 (a : Int), .int .i64 (b : Int)] 42) from alloc_at hz2)
  clear hpn
  clear h1 h2 hp hokl hokh hn hdec hlen
  go_enter Tryz.func24, Tryz.ntmps24
  go_upto_region 1 with fail
  generalize (((w.alloc (.cells #[.slice A n c] 27)).alloc (.cells #[.slice B n d] 27)).alloc (.cells #[.int .i64 (-1), .int .i64 (a : Int), .int .i64 (b : Int)] 42)) = W1 at *
  clear hz2
  generalize hg : w.heap.size = g at HPA HRB ⊢
  have HG := Lib.hid hg
  clear hg
  have l0 := HPA.out.cs.1
  have h0 := HPA.out.cs.2.1
  go_wp2_with fail
  refine (rdbegin_run P Q ls hs _ _ s HS.out _ (by rw [HN.out]; exact hl) HPA.out.ml HPA.out.mh HP.out).mono ?_
  rintro e W1x ⟨rfl, hbx⟩
  have HPA1 := Lib.hid (HPA.out.to hbx)
  have HBZ := Lib.hid hbx
  clear hbx l0 h0
  have l1 := HPA1.out.cs.1
  have h1 := HPA1.out.cs.2.1
  have HRB1 := Lib.hid ((HBZ.out.block _ (Array.getElem?_eq_some_iff.1 HRB.out).1).trans HRB.out)
  have hrb := HRB1.out
  have z0_W1x : W1x.cell? ⟨g + 2, 0, none⟩ = some (.int .i64 (-1)) := cell_of_row _ _ 0 _ _ (0, 0) hrb
  have z1_W1x : W1x.cell? ⟨g + 2, 1, none⟩ = some (.int .i64 (a : Int)) := cell_of_row _ _ 1 _ _ (0, 0) hrb
  have z2_W1x : W1x.cell? ⟨g + 2, 2, none⟩ = some (.int .i64 (b : Int)) := cell_of_row _ _ 2 _ _ (0, 0) hrb
  clear hrb
  go_wp2_with fail
  refine (D3.rdelete_run P ls _ s _ (by rw [HN.out]; omega) (by have h := HS.out; have : 2 ^ ls.length ≤ 2 ^ 10 := Nat.pow_le_pow_right (by omega) (by rw [HN.out]; omega); omega) HPA1.out.ml (by rw [HN.out]; exact HOL.out)).mono ?_
  rintro e Wd ⟨vd, rfl, hmd, hbd⟩
  obtain ⟨Ad, cd, rfl⟩ := hmd.slice
  have hdl : (D3.delM s ls).length = n := by rw [D3.delM_len, HN.out]
  rw [hdl] at hmd ⊢
  have HDL2 := Lib.hid hdl
  have hrd := (hbd.block _ (Array.getElem?_eq_some_iff.1 HRB1.out).1).trans HRB1.out
  have hba := balloc (bref Wd) (.cells #[.slice Ad n cd] 27)
  have HKD := Lib.hid (show (Wd.alloc (.cells #[.slice Ad n cd] 27)).heap[Wd.heap.size]? = some (.cells #[.slice Ad n cd] 27 (0, 0)) from alloc_at rfl)
  have HRD := Lib.hid ((hba.block _ (Array.getElem?_eq_some_iff.1 hrd).1).trans hrd)
  have HMD := Lib.hid ((hmd.both (w' := Wd) (Q := fun _ => True) (fun _ _ _ => rfl) (fun _ _ _ => trivial)).below hba)
  have HBD := Lib.hid (HPA1.out.to (bstep hbd hba)).bel
  clear hbd hmd hdl hrd hba l1 h1
  go_upto_region 6 with fail
  generalize (Wd.alloc (.cells #[.slice Ad n cd] 27)) = WD at *
  generalize Wd.heap.size = db at *
  have d0 : WD.cell? ⟨db, 0, none⟩ = some (.slice Ad n cd) := cell_of_row _ _ 0 _ _ (0, 0) HKD.out
  have hrb := HRD.out
  have z0_WD : WD.cell? ⟨g + 2, 0, none⟩ = some (.int .i64 (-1)) := cell_of_row _ _ 0 _ _ (0, 0) hrb
  have z1_WD : WD.cell? ⟨g + 2, 1, none⟩ = some (.int .i64 (a : Int)) := cell_of_row _ _ 1 _ _ (0, 0) hrb
  have z2_WD : WD.cell? ⟨g + 2, 2, none⟩ = some (.int .i64 (b : Int)) := cell_of_row _ _ 2 _ _ (0, 0) hrb
  clear hrb
  go_wp2_with fail
  refine (rquorum_run _ 3 (D3.delM s ls) _ a _ (by rw [HDL2.out]; omega) ha10 HMD.out).mono ?_
  rintro e We ⟨q1, rfl, hq1, hbe⟩
  obtain rfl : q1 = true := hq1.2 HQA.out
  have HBE := Lib.hid (bstep HBD.out hbe)
  have HMD2 := Lib.hid (HMD.out.below hbe)
  have e0 := (hbe.cell (cell_lt d0)).trans d0
  have z1_We := (hbe.cell (cell_lt z1_WD)).trans z1_WD
  have z2_We := (hbe.cell (cell_lt z2_WD)).trans z2_WD
  clear hbe hq1 d0 z0_WD z1_WD z2_WD
  go_wp2_with fail
  refine (rquorum_run _ 3 (D3.delM s ls) _ b _ (by rw [HDL2.out]; omega) hb10 HMD2.out).mono ?_
  rintro e Wf ⟨q2, rfl, hq2, hbf⟩
  obtain rfl : q2 = true := hq2.2 HQB.out
  have HBF := Lib.hid (bstep HBE.out hbf)
  have z1_Wf := (hbf.cell (cell_lt z1_We)).trans z1_We
  have z2_Wf := (hbf.cell (cell_lt z2_We)).trans z2_We
  clear hbf hq2 e0 z1_We z2_We
  go_wp2_with fail
  go_ret
  exact ⟨rfl, HBF.out⟩

set_option maxRecDepth 100000 in
set_option maxHeartbeats 4000000 in
theorem rdstuck_run (P : Nat → Prop) (ms : List Mem) (v : Value) (k s : Nat) (w : World) (hl : ms.length ≤ 10) (hk : k < ms.length) (hs : s < 2 ^ ms.length) (h : MemsAt P 3 w v ms) :
    Calls Tryz.prog 60 #[.agg #[v], .int .i64 (s : Int), .int .i64 (k : Int)] w fun e w' => e = .returned (.bool (lackB ms s k)) ∧ Below w.heap.size w w' := by
  obtain ⟨A, c, rfl⟩ := h.slice
  have hb1 : Below w.heap.size w (w.alloc (.cells #[.slice A ms.length c] 27)) := balloc (bref w) _
  have k0 : (w.alloc (.cells #[.slice A ms.length c] 27)).heap[w.heap.size]? = some (.cells #[.slice A ms.length c] 27 (0, 0)) := alloc_at rfl
  have hp2 : 2 ^ ms.length ≤ 2 ^ 10 := Nat.pow_le_pow_right (by omega) hl
  have hs10 : s < 1024 := by omega
  have hO := outS_sub ms.length s hl (by omega)
  have HMR := Lib.hid (fun W => rdmembers_run A ms.length c hl W)
  obtain ⟨M, hM⟩ : ∃ M, 2 ^ ms.length - 1 = M := ⟨_, rfl⟩
  rw [hM] at hO HMR
  clear hM
  have hrl := outS_lt ms.length s hl
  have HHB := Lib.hid (show hasB (s : Int) (k : Int) = s.testBit k from hasB_bit hs10 (by omega))
  have HLB := Lib.hid (show lackB ms s k = (!s.testBit k && (!(ms.getD k (false, .mk 0 [] [])).1 || !satB 3 (trOf ms k) ((outS ms.length s : Nat) : Int))) from rfl)
  generalize outS ms.length s = r at hO hrl HLB
  have H := Lib.hid (h.below hb1)
  have HB := Lib.hid hb1
  have K0 := Lib.hid k0
  have hkn : (k : Int) < (ms.length : Int) := by omega
  have hk0 : ¬ (k : Int) < 0 := by omega
  clear h hb1 k0 hp2 hs
  go_enter Tryz.func60, Tryz.ntmps60
  go_upto_region 1 with fail
  generalize w.alloc (.cells #[.slice A ms.length c] 27) = W1 at *
  generalize hg : w.heap.size = g at *
  have HG := Lib.hid hg
  clear hg
  have c0 : W1.cell? ⟨g, 0, none⟩ = some (.slice A ms.length c) := cell_of_row _ _ 0 _ _ (0, 0) K0.out
  have HBw := Lib.hid (show Below w.heap.size w W1 by rw [HG.out]; exact HB.out)
  go_wp2_with fail
  refine (rhas_run _ _ _).mono ?_
  rintro e W3 ⟨rfl, rfl⟩
  rw [HHB.out]
  obtain ⟨q, hq⟩ : ∃ q, s.testBit k = q := ⟨_, rfl⟩
  rw [hq] at HLB ⊢
  cases q
  · obtain ⟨A', c', hA', hL⟩ := H.out
    injection hA' with q1 q2 q3
    subst q1
    obtain ⟨m, hm⟩ : ∃ m, ms[k]? = some m := ⟨_, List.getElem?_eq_getElem hk⟩
    obtain ⟨b, off, y0, y1, y2, rfl, _, d0, d1, d2, d3, hT⟩ := hL k m hm
    have e1 : ms.getD k (false, .mk 0 [] []) = m := by rw [List.getD_eq_getElem?_getD, hm]; rfl
    have HLB2 := Lib.hid (show lackB ms s k = (!m.1 || !satB 3 m.2 (r : Int)) from by rw [HLB.out]; unfold trOf; rw [e1]; rfl)
    obtain ⟨dc, T⟩ := m
    obtain ⟨t, a1, n1, x1, a2, n2, x2, rfl, rfl, rfl⟩ := hT.form
    have HT := Lib.hid hT
    have HKE := Lib.hid (show ∀ W W', W.cell? ⟨g, 0, none⟩ = some (.slice (some ⟨b, off, none⟩) ms.length c) ∧ W.cell? ⟨b, off + k * 4, none⟩ = some (.bool dc) ∧ W.cell? ⟨b, off + k * 4 + 1, none⟩ = some (.int .i64 t) ∧ W.cell? ⟨b, off + k * 4 + 2, none⟩ = some (.slice a1 n1 x1) ∧ W.cell? ⟨b, off + k * 4 + 3, none⟩ = some (.slice a2 n2 x2) ∧ (TAt P 3 W (.int .i64 t) (.slice a1 n1 x1) (.slice a2 n2 x2) T ∧ Below w.heap.size w W) → Below W.heap.size W W' →
      W'.cell? ⟨g, 0, none⟩ = some (.slice (some ⟨b, off, none⟩) ms.length c) ∧ W'.cell? ⟨b, off + k * 4, none⟩ = some (.bool dc) ∧ W'.cell? ⟨b, off + k * 4 + 1, none⟩ = some (.int .i64 t) ∧ W'.cell? ⟨b, off + k * 4 + 2, none⟩ = some (.slice a1 n1 x1) ∧ W'.cell? ⟨b, off + k * 4 + 3, none⟩ = some (.slice a2 n2 x2) ∧ (TAt P 3 W' (.int .i64 t) (.slice a1 n1 x1) (.slice a2 n2 x2) T ∧ Below w.heap.size w W') from fun W W' h hb =>
        ⟨(hb.cell (cell_lt h.1)).trans h.1, (hb.cell (cell_lt h.2.1)).trans h.2.1, (hb.cell (cell_lt h.2.2.1)).trans h.2.2.1, (hb.cell (cell_lt h.2.2.2.1)).trans h.2.2.2.1, (hb.cell (cell_lt h.2.2.2.2.1)).trans h.2.2.2.2.1, h.2.2.2.2.2.1.below hb, bstep h.2.2.2.2.2.2 hb⟩)
    have hS := Lib.hid (HKE.out _ _ ⟨c0, d0, d1, d2, d3, HT.out, HBw.out⟩ (bdrew (bref W1)))
    clear hL hT hm e1 q2 q3 hq
    cases dc
    · have HF := Lib.hid (show lackB ms s k = true from by rw [HLB2.out]; rfl)
      go_upto_region 3 with fail
      go_region
      all_goals
        have HBZ := Lib.hid hS.out.2.2.2.2.2.2
        go_wp2_with fail
        go_ret
        exact ⟨by rw [HF.out]; rfl, HBZ.out⟩
    · have HF := Lib.hid (show lackB ms s k = !satB 3 T (r : Int) from by rw [HLB2.out]; rfl)
      go_upto_region 3 with fail
      go_region_held3 (fun W => W.cell? ⟨g, 0, none⟩ = some (.slice (some ⟨b, off, none⟩) ms.length c) ∧ W.cell? ⟨b, off + k * 4, none⟩ = some (.bool true) ∧ W.cell? ⟨b, off + k * 4 + 1, none⟩ = some (.int .i64 t) ∧ W.cell? ⟨b, off + k * 4 + 2, none⟩ = some (.slice a1 n1 x1) ∧ W.cell? ⟨b, off + k * 4 + 3, none⟩ = some (.slice a2 n2 x2) ∧ (TAt P 3 W (.int .i64 t) (.slice a1 n1 x1) (.slice a2 n2 x2) T ∧ Below w.heap.size w W)) (first | exact hS.out | exact hSK | exact HKE.out _ _ (by assumption) hbK | go_keep)
        (first
          | (go_at_call 70; refine (HMR.out _).mono ?_; rintro e WK ⟨rfl, hbK⟩; have hSK := HKE.out _ _ (by assumption) hbK)
          | (go_at_call 63; refine (rsat_run P 3 T _ _ _ r _ hrl (by exact (show _ ∧ _ ∧ _ ∧ _ ∧ _ ∧ (TAt P 3 _ (.int .i64 t) (.slice a1 n1 x1) (.slice a2 n2 x2) T ∧ _) from by assumption).2.2.2.2.2.1)).mono ?_; rintro e WL ⟨rfl, hbK⟩; have hSK := HKE.out _ _ (by assumption) hbK))
      all_goals
        have HBZ := Lib.hid hSK.2.2.2.2.2.2
        go_wp2_with fail
        go_ret
        exact ⟨by rw [HF.out]; rfl, HBZ.out⟩
  · have HF := Lib.hid (show lackB ms s k = false from by rw [HLB.out]; rfl)
    go_wp2_with fail
    go_ret
    exact ⟨by rw [HF.out]; rfl, HBw.out⟩

set_option maxRecDepth 100000 in
set_option maxHeartbeats 4000000 in
theorem rdcheckN_run (P Q : Nat → Prop) (ls hs : List Mem) (vl vh : Value) (k s : Nat) (hkx : k < ls.length) (hlk : lackB hs s k = true) (hsx : s < 2 ^ ls.length) (w : World) (hl : ls.length ≤ 7) (h1 : MemsAt P 3 w vl ls) (h2 : MemsAt Q 3 w vh hs) (hp : PairM ls hs) :
    Calls Tryz.prog 24 #[.agg #[vl], .agg #[vh], .int .i64 (s : Int), .agg #[.int .i64 (k : Int), .int .i64 0, .int .i64 0]] w fun e w' => e = .returned (.bool true) ∧ Below w.heap.size w w' := by
  have HS := Lib.hid hsx
  have HK := Lib.hid hkx
  have HLK := Lib.hid hlk
  clear hsx hkx hlk
  obtain ⟨A, c, rfl⟩ := h1.slice
  obtain ⟨B, d, rfl⟩ := h2.slice
  have hlen := hp.len
  have hokl := hp.okl
  have hokh := hp.okh
  have hdec := hp.decl
  have HDL := Lib.hid (fun W (h : MemsAt P 3 W (.slice A ls.length c) ls) => declared_run P 3 ls _ W (by omega) h)
  have HDH := Lib.hid (fun W (h : MemsAt Q 3 W (.slice B hs.length d) hs) => declared_run Q 3 hs _ W (by omega) h)
  rw [hdec] at HDH
  rw [hlen] at h2 HDH hokh ⊢
  obtain ⟨n, hn⟩ : ∃ n, ls.length = n := ⟨_, rfl⟩
  have HN := Lib.hid hn
  have HNH := Lib.hid hlen
  rw [hn] at HNH
  have HD := Lib.hid (fun k (h : (declS ls ls.length).testBit k = true) => declS_bit h)
  have HDM := Lib.hid (fun k (h : (declS ls ls.length).testBit k = true) => declS_memD h)
  have hDl : declS ls ls.length < 1024 := declS_lt ls _ (by omega)
  generalize declS ls ls.length = D at HDL HDH hDl HD HDM
  rw [hn] at h1 h2 HDL HDH hokl hokh hl HD ⊢
  have HP := Lib.hid hp
  have HOL := Lib.hid hokl
  have HOH := Lib.hid hokh
  have hpn := PA.new h1 h2
  have hz2 : ((w.alloc (.cells #[.slice A n c] 27)).alloc (.cells #[.slice B n d] 27)).heap.size = w.heap.size + 2 := by rw [alloc_sz, alloc_sz]
  have HPA := Lib.hid (hpn.to (balloc (bref _) (.cells #[.int .i64 (k : Int), .int .i64 0, .int .i64 0] 42)))
  have HRB := Lib.hid (show (((w.alloc (.cells #[.slice A n c] 27)).alloc (.cells #[.slice B n d] 27)).alloc (.cells #[.int .i64 (k : Int), .int .i64 0, .int .i64 0] 42)).heap[w.heap.size + 2]? = some (.cells #[.int .i64 (k : Int), .int .i64 0, .int .i64 0] 42) from alloc_at hz2)
  clear hpn
  clear h1 h2 hp hokl hokh hn hdec hlen
  go_enter Tryz.func24, Tryz.ntmps24
  go_upto_region 1 with fail
  generalize (((w.alloc (.cells #[.slice A n c] 27)).alloc (.cells #[.slice B n d] 27)).alloc (.cells #[.int .i64 (k : Int), .int .i64 0, .int .i64 0] 42)) = W1 at *
  clear hz2
  generalize hg : w.heap.size = g at HPA HRB ⊢
  have HG := Lib.hid hg
  clear hg
  have l0 := HPA.out.cs.1
  have h0 := HPA.out.cs.2.1
  go_wp2_with fail
  refine (rdbegin_run P Q ls hs _ _ s HS.out _ (by rw [HN.out]; exact hl) HPA.out.ml HPA.out.mh HP.out).mono ?_
  rintro e W1x ⟨rfl, hbx⟩
  have HPA1 := Lib.hid (HPA.out.to hbx)
  have HBZ := Lib.hid hbx
  clear hbx l0 h0
  have l1 := HPA1.out.cs.1
  have h1 := HPA1.out.cs.2.1
  have HRB1 := Lib.hid ((HBZ.out.block _ (Array.getElem?_eq_some_iff.1 HRB.out).1).trans HRB.out)
  have hrb := HRB1.out
  have z0_W1x : W1x.cell? ⟨g + 2, 0, none⟩ = some (.int .i64 (k : Int)) := cell_of_row _ _ 0 _ _ (0, 0) hrb
  have z1_W1x : W1x.cell? ⟨g + 2, 1, none⟩ = some (.int .i64 0) := cell_of_row _ _ 1 _ _ (0, 0) hrb
  have z2_W1x : W1x.cell? ⟨g + 2, 2, none⟩ = some (.int .i64 0) := cell_of_row _ _ 2 _ _ (0, 0) hrb
  have hkk : ¬ (k : Int) = -1 := by omega
  clear hrb
  go_wp2_with fail
  refine (rdstuck_run Q hs _ k s _ (by rw [HNH.out]; omega) (by rw [HP.out.len]; exact HK.out) (by rw [HP.out.len]; exact HS.out) HPA1.out.mh).mono ?_
  rintro e W7 ⟨rfl, hb7⟩
  rw [HLK.out]
  have HBW := Lib.hid (HPA1.out.to hb7).bel
  have z1_W7 := (hb7.cell (cell_lt z1_W1x)).trans z1_W1x
  have z2_W7 := (hb7.cell (cell_lt z2_W1x)).trans z2_W1x
  clear hb7 z0_W1x z1_W1x z2_W1x
  go_wp2_with fail
  go_ret
  exact ⟨rfl, HBW.out⟩

end Go.Proofs.YtacpfcckilnbfaaGreat

namespace Go.Proofs.YtacpfcckilnbfaaGreat
set_option linter.unusedVariables false
set_option linter.unusedSimpArgs false
open Go.RowKit

/-- v is a slice of the elements L, each n cells by enc, in a block of which P holds. -/
def RowAt {α : Type} (n : Nat) (enc : α → List Value) (P : Nat → Prop) (w : World) (v : Value) (L : List α) : Prop :=
  ∃ A c, v = .slice A L.length c ∧ L.length ≤ c ∧ c ≤ maxLen ∧ ∀ k x, L[k]? = some x → ∃ b off, A = some ⟨b, off, none⟩ ∧ P b ∧ b < w.heap.size ∧ ∀ j u, (enc x)[j]? = some u → w.cell? ⟨b, off + k * n + j, none⟩ = some u
section
variable {α : Type} {n : Nat} {enc : α → List Value} {P Q : Nat → Prop} {w w' : World} {v : Value} {L : List α}

theorem RowAt.both (h : RowAt n enc P w v L) (hs : w.heap.size ≤ w'.heap.size) (hk : ∀ k, k < w.heap.size → P k → w'.heap[k]? = w.heap[k]?) (hq : ∀ k, k < w.heap.size → P k → Q k) : RowAt n enc Q w' v L := by
  obtain ⟨A, c, h1, hc, hm, h2⟩ := h
  refine ⟨A, c, h1, hc, hm, fun k x hx => ?_⟩
  obtain ⟨b, off, e0, e1, e2, e3⟩ := h2 k x hx
  exact ⟨b, off, e0, hq _ e2 e1, Nat.lt_of_lt_of_le e2 hs, fun j u hu => (World.cell?_of_block (a := ⟨b, off + k * n + j, none⟩) (hk _ e2 e1)).trans (e3 j u hu)⟩

theorem RowAt.below (h : RowAt n enc P w v L) (hb : Below w.heap.size w w') : RowAt n enc P w' v L := h.both hb.size (fun k hk _ => hb.block k hk) (fun _ _ h => h)

theorem RowAt.imp (h : RowAt n enc P w v L) (hq : ∀ k, k < w.heap.size → P k → Q k) : RowAt n enc Q w v L := h.both (Nat.le_refl _) (fun _ _ _ => rfl) hq

theorem RowAt.slice (h : RowAt n enc P w v L) : ∃ A c, v = .slice A L.length c ∧ L.length ≤ c ∧ c ≤ maxLen := by
  obtain ⟨A, c, h1, h2, h3, _⟩ := h; exact ⟨A, c, h1, h2, h3⟩

theorem RowAt.nil : RowAt n enc P w (.slice none 0 0) ([] : List α) := ⟨none, 0, rfl, Nat.le_refl _, by unfold maxLen; omega, fun k x h => by simp at h⟩

theorem RowAt.at_ {A : Option Addr} {c : Nat} {k m : Nat} {x : α} (h : RowAt n enc P w (.slice A m c) L) (hx : L[k]? = some x) :
    ∃ b off, A = some ⟨b, off, none⟩ ∧ P b ∧ b < w.heap.size ∧ ∀ j u, (enc x)[j]? = some u → w.cell? ⟨b, off + k * n + j, none⟩ = some u := by
  obtain ⟨A', c', h1, _, _, h2⟩ := h
  cases h1
  exact h2 k x hx

theorem RowAt.drew (h : RowAt n enc P w v L) : RowAt n enc P w.drew v L := h

theorem RowAt.drewN (h : RowAt n enc P w v L) (q : Nat) : RowAt n enc P (w.drewN q) v L := h

/-- The cells of a list. -/
def flatS (enc : α → List Value) (L : List α) : List Value := L.flatMap enc

theorem flatS_append (L M : List α) : flatS enc (L ++ M) = flatS enc L ++ flatS enc M := by unfold flatS; rw [List.flatMap_append]

theorem flatS_get (hn : ∀ x, (enc x).length = n) : ∀ (L : List α) (k : Nat) (x : α) (j : Nat) (u : Value), L[k]? = some x → (enc x)[j]? = some u → (flatS enc L)[k * n + j]? = some u
  | [], _, _, _, _, h, _ => by simp at h
  | y :: L, 0, x, j, u, h, hu => by
    simp at h; subst h
    have hj : j < (enc y).length := by
      rcases Nat.lt_or_ge j (enc y).length with h | h
      · exact h
      · rw [List.getElem?_eq_none h] at hu; cases hu
    show (enc y ++ flatS enc L)[0 * n + j]? = some u
    rw [List.getElem?_append_left (by omega)]
    simpa using hu
  | y :: L, k + 1, x, j, u, h, hu => by
    have ih := flatS_get hn L k x j u (by simpa using h) hu
    show (enc y ++ flatS enc L)[(k + 1) * n + j]? = some u
    rw [List.getElem?_append_right (by rw [hn, Nat.succ_mul]; omega), hn, show (k + 1) * n + j - n = k * n + j by rw [Nat.succ_mul]; omega]
    exact ih

/-- The converse: a place of the flat list lies in one element. -/
theorem flatS_inv (hn : ∀ x, (enc x).length = n) : ∀ (L : List α) (i : Nat) (u : Value), (flatS enc L)[i]? = some u → ∃ k j x, i = k * n + j ∧ L[k]? = some x ∧ (enc x)[j]? = some u
  | [], i, u, h => by simp [flatS] at h
  | y :: L, i, u, h => by
    change (enc y ++ flatS enc L)[i]? = some u at h
    rcases Nat.lt_or_ge i n with hi | hi
    · rw [List.getElem?_append_left (by rw [hn]; exact hi)] at h
      exact ⟨0, i, y, by omega, rfl, h⟩
    · rw [List.getElem?_append_right (by rw [hn]; exact hi), hn] at h
      obtain ⟨k, j, x, e, h1, h2⟩ := flatS_inv hn L (i - n) u h
      exact ⟨k + 1, j, x, by rw [Nat.succ_mul]; omega, by simpa using h1, h2⟩

theorem RowAt.of_own {B : Nat} {e : TypeId} (hn : ∀ x, (enc x).length = n) (h : w.ownsRow B e n v L.length (flatS enc L)) (hm : L.length ≤ maxLen) (hP : ∀ b, B ≤ b → v.ownBlock = some b → P b) : RowAt n enc P w v L := by
  rcases h.2 with ⟨hv, h0⟩ | ⟨g, cap, cur, hv, hb, hg, hnc, hcm, hsz, htake⟩
  · have : L = [] := List.eq_nil_of_length_eq_zero h0
    subst this
    exact ⟨none, 0, by rw [hv]; rfl, Nat.le_refl _, by unfold maxLen; omega, fun k b hk => by simp at hk⟩
  · refine ⟨some ⟨g, 0, none⟩, cap, hv, hnc, hcm, fun k x hk => ?_⟩
    refine ⟨g, 0, rfl, hP g hb (by rw [hv]; rfl), (Array.getElem?_eq_some_iff.1 hg).1, fun j u hu => ?_⟩
    have c1 := h.cells (g := g) (by rw [hv]; rfl) _ _ (flatS_get hn L k x j u hk hu)
    rw [Addr.add_lit] at c1
    rw [show 0 + k * n + j = 0 + (k * n + j) by omega]
    exact c1

/-- What append asks of its source. -/
theorem RowAt.source {b off m c : Nat} (hn : ∀ x, (enc x).length = n) (h : RowAt n enc P w (.slice (some ⟨b, off, none⟩) m c) L) : ∀ j u, (flatS enc L)[j]? = some u → w.cell? ((⟨b, off, none⟩ : Addr).add j) = some u := by
  intro i u hu
  obtain ⟨k, j, x, rfl, h1, h2⟩ := flatS_inv hn L i u hu
  obtain ⟨b', off', e0, _, _, e3⟩ := h.at_ h1
  simp only [Option.some.injEq, Addr.mk.injEq] at e0
  obtain ⟨rfl, rfl, _⟩ := e0
  rw [Addr.add_lit, ← Nat.add_assoc]
  exact e3 j u h2
end

end Go.Proofs.YtacpfcckilnbfaaGreat

namespace Go.Proofs.YtacpfcckilnbfaaGreat
set_option linter.unusedVariables false
set_option linter.unusedSimpArgs false
open Go.RowKit

theorem andNot_big (a b : Nat) (ha : a < 9223372036854775808) (hb : b < 1024) : bits .andNot .i64 (a : Int) (b : Int) = ((a ^^^ (a &&& b) : Nat) : Int) := by
  have hx : a ^^^ (a &&& b) < 2 ^ 63 := Nat.xor_lt_two_pow (by omega) (Nat.lt_of_le_of_lt Nat.and_le_left (by omega))
  show IntKind.i64.wrap ((BitVec.ofInt 64 (a : Int) &&& ~~~BitVec.ofInt 64 (b : Int)).toNat : Int) = _
  have e : (BitVec.ofInt 64 (a : Int) &&& ~~~BitVec.ofInt 64 (b : Int)).toNat = a ^^^ (a &&& b) := by
    apply Nat.eq_of_testBit_eq
    intro i
    rw [BitVec.toNat_and, BitVec.toNat_not, ofInt_i64 a (by omega), ofInt_i64 b (by omega), Nat.testBit_and, Nat.testBit_xor, Nat.testBit_and]
    have h2 : (2 : Nat) ^ 64 - 1 - b = 2 ^ 64 - (b + 1) := by omega
    rw [h2, Nat.testBit_two_pow_sub_succ (by omega)]
    rcases Nat.lt_or_ge i 64 with hi | hi
    · simp only [hi, decide_true, Bool.true_and]
      cases a.testBit i <;> cases b.testBit i <;> rfl
    · have h10 : (2 : Nat) ^ 64 ≤ 2 ^ i := Nat.pow_le_pow_right (n := 2) (by omega) hi
      rw [Nat.testBit_lt_two_pow (show a < 2 ^ i by omega)]; rfl
  rw [e, IntKind.wrap_i64]
  omega

theorem andNot_pos {x n : Nat} (hx : x < 9223372036854775808) (hn : n ≤ 10) (h : 2 ^ n ≤ x) : ∃ r : Nat, r ≠ 0 ∧ bits .andNot .i64 (x : Int) ((2 ^ n - 1 : Nat) : Int) = (r : Int) := by
  have hp := pow_1024 hn
  refine ⟨x ^^^ (x &&& (2 ^ n - 1)), fun h0 => ?_, andNot_big x _ hx (by omega)⟩
  have h1 : Sub x (2 ^ n - 1) := fun k hk => by
    have h2 := congrArg (fun z => z.testBit k) h0
    simp only [Nat.testBit_xor, Nat.testBit_and, Nat.zero_testBit, hk, Bool.true_and] at h2
    cases hb : (2 ^ n - 1).testBit k
    · rw [hb] at h2; cases h2
    · rfl
  have h3 : x < 2 ^ n := Nat.lt_pow_two_of_testBit _ (fun k hk => by
    cases hb : x.testBit k
    · rfl
    · have h4 := h1 k hb
      rw [Nat.testBit_two_pow_sub_one, decide_eq_true_iff] at h4
      omega)
  omega

def inRng (n : Nat) (x : Int) : Bool := decide (0 ≤ x ∧ x < ((2 ^ n : Nat) : Int))

def errI (n : Nat) (x : Int) : Int := if inRng n x then 0 else 1

set_option maxRecDepth 100000 in
set_option maxHeartbeats 2000000 in
theorem dpsubsetI_run (P : Nat → Prop) (ms : List Mem) (v : Value) (x : Int) (hx : x < 9223372036854775808) (w : World) (hl : ms.length ≤ 10) (h : MemsAt P 3 w v ms) (hok : D3.MemsOk ms.length ms) :
    Calls Tryz.prog 87 #[.agg #[v], .int .i64 x] w fun e w' => e = .returned (.bool (inRng ms.length x)) ∧ Below w.heap.size w w' := by
  by_cases h0 : 0 ≤ x
  · obtain ⟨s, rfl⟩ := Int.eq_ofNat_of_zero_le h0
    by_cases hs : s < 2 ^ ms.length
    · refine (dpsubset_run P ms v s w hl hs h hok).mono ?_
      rintro e w' ⟨rfl, hb⟩
      exact ⟨by rw [show inRng ms.length (s : Int) = true from decide_eq_true (by omega)], hb⟩
    · obtain ⟨r, hr0, han⟩ := andNot_pos (x := s) (n := ms.length) (by omega) hl (by omega)
      have HF := Lib.hid (show ((r : Int) == 0) = inRng ms.length (s : Int) from by rw [show inRng ms.length (s : Int) = false from decide_eq_false (by omega)]; simpa using hr0)
      have hri : ¬ (r : Int) = 0 := by omega
      obtain ⟨A, c, rfl⟩ := h.slice
      have hb1 : Below w.heap.size w (w.alloc (.cells #[.slice A ms.length c] 27)) := balloc (bref w) _
      have k0 : (w.alloc (.cells #[.slice A ms.length c] 27)).heap[w.heap.size]? = some (.cells #[.slice A ms.length c] 27 (0, 0)) := alloc_at rfl
      have HMR := Lib.hid (fun W => dpmembers_run A ms.length c hl W)
      obtain ⟨M, hM⟩ : ∃ M, 2 ^ ms.length - 1 = M := ⟨_, rfl⟩
      rw [hM] at han HMR
      have HB := Lib.hid hb1
      have K0 := Lib.hid k0
      clear h hb1 k0 hM hs hok hr0
      go_enter Tryz.func87, Tryz.ntmps87
      go_upto_region 1 with fail
      generalize w.alloc (.cells #[.slice A ms.length c] 27) = W1 at *
      generalize hg : w.heap.size = g at *
      have HG := Lib.hid hg
      clear hg
      have c0 : W1.cell? ⟨g, 0, none⟩ = some (.slice A ms.length c) := cell_of_row _ _ 0 _ _ (0, 0) K0.out
      have HBw := Lib.hid (show Below w.heap.size w W1 by rw [HG.out]; exact HB.out)
      go_wp2_with fail
      refine (HMR.out _).mono ?_
      rintro e W2 ⟨rfl, hb2⟩
      have HB2 := Lib.hid (bstep HBw.out hb2)
      clear hb2 c0
      go_wp2_with fail
      go_ret
      exact ⟨by rw [← HF.out]; rfl, HB2.out⟩
  · have HF := Lib.hid (show inRng ms.length x = false from decide_eq_false (by omega))
    obtain ⟨A, c, rfl⟩ := h.slice
    have HB := Lib.hid (balloc (bref w) (.cells #[.slice A ms.length c] 27))
    have hx0 : ¬ (0 : Int) ≤ x := h0
    clear h hok
    go_enter Tryz.func87, Tryz.ntmps87
    go_upto_region 1 with fail
    generalize w.alloc (.cells #[.slice A ms.length c] 27) = W1 at *
    go_wp2_with fail
    go_ret
    exact ⟨by rw [HF.out]; rfl, HB.out⟩

/-- What Is returns at any number. -/
def IsIs (ls hs : List Mem) (x : Int) (e : Ending) : Prop := ∃ (b : Bool) (er : Int), e = .returned (.tuple #[.bool b, .int .i64 er]) ∧ (b = true ↔ ∃ s : Nat, x = (s : Int) ∧ s < 2 ^ ls.length ∧ AvT hs s ∧ InT (D3.delM s ls))

set_option maxRecDepth 100000 in
set_option maxHeartbeats 4000000 in
theorem dpvpairI_run (P Q : Nat → Prop) (ls hs : List Mem) (vl vh : Value) (x : Int) (hx : x < 9223372036854775808) (w : World) (hl : ls.length ≤ 7) (h1 : MemsAt P 3 w vl ls) (h2 : MemsAt Q 3 w vh hs) (hp : PairM ls hs) :
    Calls Tryz.prog 47 #[.agg #[vl], .agg #[vh], .int .i64 x] w fun e w' => e = .returned (.int .i64 (errI ls.length x)) ∧ Below w.heap.size w w' := by
  obtain ⟨A, c, rfl⟩ := h1.slice
  obtain ⟨B, d, rfl⟩ := h2.slice
  have hlen := hp.len
  have hokl := hp.okl
  have hokh := hp.okh
  have hdec := hp.decl
  have HDL := Lib.hid (fun W (h : MemsAt P 3 W (.slice A ls.length c) ls) => declared_run P 3 ls _ W (by omega) h)
  have HDH := Lib.hid (fun W (h : MemsAt Q 3 W (.slice B hs.length d) hs) => declared_run Q 3 hs _ W (by omega) h)
  rw [hdec] at HDH
  rw [hlen] at h2 HDH hokh ⊢
  obtain ⟨n, hn⟩ : ∃ n, ls.length = n := ⟨_, rfl⟩
  have HN := Lib.hid hn
  have HNH := Lib.hid hlen
  rw [hn] at HNH
  have HD := Lib.hid (fun k (h : (declS ls ls.length).testBit k = true) => declS_bit h)
  have HDM := Lib.hid (fun k (h : (declS ls ls.length).testBit k = true) => declS_memD h)
  have hDl : declS ls ls.length < 1024 := declS_lt ls _ (by omega)
  generalize declS ls ls.length = D at HDL HDH hDl HD HDM
  rw [hn] at h1 h2 HDL HDH hokl hokh hl HD ⊢
  have HP := Lib.hid hp
  have HOL := Lib.hid hokl
  have HOH := Lib.hid hokh
  have HPA := Lib.hid (PA.new h1 h2)
  clear h1 h2 hp hokl hokh hn hdec hlen
  go_enter Tryz.func47, Tryz.ntmps47
  go_upto_region 1 with fail
  generalize ((w.alloc (.cells #[.slice A n c] 27)).alloc (.cells #[.slice B n d] 27)) = W1 at *
  generalize w.heap.size = g at HPA ⊢
  have l0 := HPA.out.cs.1
  have h0 := HPA.out.cs.2.1
  go_wp2_with fail
  refine (dpvalid_run P Q ls hs _ _ _ (by rw [HN.out]; exact hl) HPA.out.ml HPA.out.mh HP.out).mono ?_
  rintro e W1x ⟨rfl, hbx⟩
  have HPA1 := Lib.hid (HPA.out.to hbx)
  clear hbx l0 h0
  have l1 := HPA1.out.cs.1
  have h1 := HPA1.out.cs.2.1
  go_wp2_with fail
  refine (dpsubsetI_run P ls _ x hx _ (by rw [HN.out]; omega) HPA1.out.ml (by rw [HN.out]; exact HOL.out)).mono ?_
  rintro e W2x ⟨rfl, hbx⟩
  have HPA2 := Lib.hid (HPA1.out.to hbx)
  clear hbx l1 h1
  have l2 := HPA2.out.cs.1
  have h2 := HPA2.out.cs.2.1
  obtain ⟨b, hb⟩ : ∃ b, inRng ls.length x = b := ⟨_, rfl⟩
  have HE := Lib.hid (show errI n x = if b then (0 : Int) else 1 from by unfold errI; rw [← HN.out, hb])
  rw [hb]
  clear hb
  cases b
  · go_wp2_with fail
    go_ret
    exact ⟨by rw [HE.out]; rfl, HPA2.out.bel⟩
  · go_wp2_with fail
    go_ret
    exact ⟨by rw [HE.out]; rfl, HPA2.out.bel⟩

set_option maxRecDepth 100000 in
set_option maxHeartbeats 4000000 in
theorem dpIsBad_run (P Q : Nat → Prop) (ls hs : List Mem) (vl vh : Value) (x : Int) (hx : x < 9223372036854775808) (w : World) (hl : ls.length ≤ 7) (h1 : MemsAt P 3 w vl ls) (h2 : MemsAt Q 3 w vh hs) (hp : PairM ls hs) (hns : ¬ (0 ≤ x ∧ x < ((2 ^ ls.length : Nat) : Int))) :
    Calls Tryz.prog 19 #[.agg #[vl], .agg #[vh], .int .i64 x] w fun e w' => IsIs ls hs x e ∧ Below w.heap.size w w' := by
  have HNS := Lib.hid hns
  have HBAD := Lib.hid (show errI ls.length x = 1 from by unfold errI inRng; rw [decide_eq_false hns]; rfl)
  clear hns
  obtain ⟨A, c, rfl⟩ := h1.slice
  obtain ⟨B, d, rfl⟩ := h2.slice
  have hlen := hp.len
  have hokl := hp.okl
  have hokh := hp.okh
  have hdec := hp.decl
  have HDL := Lib.hid (fun W (h : MemsAt P 3 W (.slice A ls.length c) ls) => declared_run P 3 ls _ W (by omega) h)
  have HDH := Lib.hid (fun W (h : MemsAt Q 3 W (.slice B hs.length d) hs) => declared_run Q 3 hs _ W (by omega) h)
  rw [hdec] at HDH
  rw [hlen] at h2 HDH hokh ⊢
  obtain ⟨n, hn⟩ : ∃ n, ls.length = n := ⟨_, rfl⟩
  have HN := Lib.hid hn
  have HNH := Lib.hid hlen
  rw [hn] at HNH
  have HD := Lib.hid (fun k (h : (declS ls ls.length).testBit k = true) => declS_bit h)
  have HDM := Lib.hid (fun k (h : (declS ls ls.length).testBit k = true) => declS_memD h)
  have hDl : declS ls ls.length < 1024 := declS_lt ls _ (by omega)
  generalize declS ls ls.length = D at HDL HDH hDl HD HDM
  rw [hn] at h1 h2 HDL HDH hokl hokh hl HD ⊢
  have HP := Lib.hid hp
  have HOL := Lib.hid hokl
  have HOH := Lib.hid hokh
  have HPA := Lib.hid (PA.new h1 h2)
  clear h1 h2 hp hokl hokh hn hdec hlen
  go_enter Tryz.func19, Tryz.ntmps19
  go_upto_region 1 with fail
  generalize ((w.alloc (.cells #[.slice A n c] 27)).alloc (.cells #[.slice B n d] 27)) = W1 at *
  generalize w.heap.size = g at HPA ⊢
  have l0 := HPA.out.cs.1
  have h0 := HPA.out.cs.2.1
  go_wp2_with fail
  refine (dpvpairI_run P Q ls hs _ _ x hx _ (by rw [HN.out]; exact hl) HPA.out.ml HPA.out.mh HP.out).mono ?_
  rintro e W1x ⟨rfl, hbx⟩
  have HPA1 := Lib.hid (HPA.out.to hbx)
  clear hbx l0 h0
  have l1 := HPA1.out.cs.1
  have h1 := HPA1.out.cs.2.1
  rw [HBAD.out]
  have HF := Lib.hid (show ¬ ∃ s : Nat, x = (s : Int) ∧ s < 2 ^ n ∧ AvT hs s ∧ InT (D3.delM s ls) from by
    rintro ⟨s, rfl, h, _⟩
    exact HNS.out ⟨by omega, by rw [HN.out]; omega⟩)
  go_wp2_with fail
  go_ret2
  exact ⟨⟨false, 1, rfl, iff_of_false (by simp) (by rw [HN.out]; exact HF.out)⟩, HPA1.out.bel⟩

theorem dpIsI_run (P Q : Nat → Prop) (ls hs : List Mem) (vl vh : Value) (x : Int) (hx : x < 9223372036854775808) (w : World) (hl : ls.length ≤ 7) (h1 : MemsAt P 3 w vl ls) (h2 : MemsAt Q 3 w vh hs) (hp : PairM ls hs) :
    Calls Tryz.prog 19 #[.agg #[vl], .agg #[vh], .int .i64 x] w fun e w' => IsIs ls hs x e ∧ Below w.heap.size w w' := by
  by_cases hs2 : 0 ≤ x ∧ x < ((2 ^ ls.length : Nat) : Int)
  · obtain ⟨s, rfl⟩ := Int.eq_ofNat_of_zero_le hs2.1
    refine (dpIs_run P Q ls hs vl vh s (by omega) w hl h1 h2 hp).mono ?_
    rintro e w' ⟨⟨b, rfl, hb⟩, hb2⟩
    refine ⟨⟨b, 0, rfl, hb.trans ⟨fun h => ⟨s, rfl, by omega, h⟩, ?_⟩⟩, hb2⟩
    rintro ⟨t, e, _, h⟩
    obtain rfl := Int.ofNat.inj e
    exact h
  · exact dpIsBad_run P Q ls hs vl vh x hx w hl h1 h2 hp hs2

end Go.Proofs.YtacpfcckilnbfaaGreat

namespace Go.Proofs.YtacpfcckilnbfaaGreat
set_option linter.unusedVariables false
set_option linter.unusedSimpArgs false
open Go.RowKit

def FilOf (p : Nat → Prop) (l : List Nat) (k : Nat) (L : List Nat) : Prop := L.Sublist (l.take k) ∧ ∀ b, b ∈ L ↔ b ∈ l.take k ∧ p b

theorem FilOf.zero (p : Nat → Prop) (l : List Nat) : FilOf p l 0 [] := ⟨by simp, fun b => by simp⟩

theorem FilOf.skip {p : Nat → Prop} {l L : List Nat} {k b : Nat} (h : FilOf p l k L) (hb : l[k]? = some b) (hn : ¬ p b) : FilOf p l (k + 1) L := by
  unfold FilOf
  rw [List.take_add_one, hb]
  refine ⟨h.1.trans (List.sublist_append_left _ _), fun x => ?_⟩
  rw [h.2 x, List.mem_append]
  constructor
  · rintro ⟨h1, h2⟩; exact ⟨.inl h1, h2⟩
  · rintro ⟨h1 | h1, h2⟩
    · exact ⟨h1, h2⟩
    · have : x = b := by simpa using h1
      rw [this] at h2; exact absurd h2 hn

theorem FilOf.add {p : Nat → Prop} {l L : List Nat} {k b : Nat} (h : FilOf p l k L) (hb : l[k]? = some b) (hn : p b) : FilOf p l (k + 1) (L ++ [b]) := by
  unfold FilOf
  rw [List.take_add_one, hb]
  refine ⟨List.Sublist.append h.1 (by simp), fun x => ?_⟩
  rw [List.mem_append, h.2 x, List.mem_append]
  constructor
  · rintro (⟨h1, h2⟩ | h1)
    · exact ⟨.inl h1, h2⟩
    · have : x = b := by simpa using h1
      rw [this]; exact ⟨.inr (by simp), hn⟩
  · rintro ⟨h1 | h1, h2⟩
    · exact .inl ⟨h1, h2⟩
    · exact .inr (by simpa using h1)

/-- What around returns. -/
def ArIs (n s k : Nat) (L : List Nat) : Prop := Asc L ∧ L.length ≤ 1024 ∧ ∀ b, b ∈ L ↔ b < 2 ^ n ∧ Sub s b ∧ b.testBit k = false

theorem FilOf.done {s k n n' : Nat} {l L : List Nat} (hn' : 2 ^ n - 1 < 2 ^ n') (hf : IsFound n' (fun t => subB t (2 ^ n - 1)) l) (h : FilOf (fun b => Sub s b ∧ b.testBit k = false) l l.length L) : ArIs n s k L := by
  obtain ⟨h1, h2⟩ := h
  rw [List.take_length] at h1 h2
  refine ⟨hf.1.sublist h1, Nat.le_trans h1.length_le hf.2.2, fun b => ?_⟩
  rw [h2 b, hf.2.1 b]
  constructor
  · rintro ⟨⟨_, h3⟩, h4⟩
    refine ⟨Nat.lt_pow_two_of_testBit _ (fun k hk => ?_), h4⟩
    cases hb : b.testBit k
    · rfl
    · have h5 := sub_bits.1 h3 k hb
      rw [Nat.testBit_two_pow_sub_one, decide_eq_true_iff] at h5
      omega
  · rintro ⟨h3, h4⟩
    refine ⟨⟨by omega, sub_bits.2 (fun k hk => ?_)⟩, h4⟩
    rw [Nat.testBit_two_pow_sub_one, decide_eq_true (lt_bit h3 hk)]

set_option maxRecDepth 100000 in
set_option maxHeartbeats 8000000 in
theorem inaround_run (P : Nat → Prop) (ms : List Mem) (v : Value) (s k0 : Nat) (hk : k0 < 10) (w : World) (hl : ms.length ≤ 10) (hs : s < 2 ^ ms.length) (h : MemsAt P 3 w v ms) (hok : D3.MemsOk ms.length ms) :
    Calls Tryz.prog 77 #[.agg #[v], .int .i64 (s : Int), .int .i64 (k0 : Int)] w fun e w' => (∃ (v : Value) (L : List Nat), e = .returned v ∧ NodesAt (fun b => w.heap.size ≤ b) w' v (zs L) ∧ ArIs ms.length s k0 L) ∧ Below w.heap.size w w' := by
  obtain ⟨A, c, rfl⟩ := h.slice
  have hb1 : Below w.heap.size w (w.alloc (.cells #[.slice A ms.length c] 27)) := balloc (bref w) _
  have kk0 : (w.alloc (.cells #[.slice A ms.length c] 27)).heap[w.heap.size]? = some (.cells #[.slice A ms.length c] 27 (0, 0)) := alloc_at rfl
  have hp2 : 2 ^ ms.length ≤ 2 ^ 10 := Nat.pow_le_pow_right (by omega) hl
  have hs10 : s < 1024 := by omega
  have H := Lib.hid (h.below hb1)
  have HB := Lib.hid hb1
  have K0 := Lib.hid kk0
  have HOK := Lib.hid hok
  have HS := Lib.hid hs
  clear h hb1 kk0 hp2 hs hok
  go_enter Tryz.func77, Tryz.ntmps77
  go_upto_region 1 with fail
  generalize w.alloc (.cells #[.slice A ms.length c] 27) = W1 at *
  generalize hg : w.heap.size = g at *
  have HG := Lib.hid hg
  clear hg
  have c0 : W1.cell? ⟨g, 0, none⟩ = some (.slice A ms.length c) := cell_of_row _ _ 0 _ _ (0, 0) K0.out
  have HBw := Lib.hid (show Below w.heap.size w W1 by rw [HG.out]; exact HB.out)
  have hn10 : ms.length ≤ 10 := hl
  have HKL := Lib.hid hk
  clear hk
  obtain ⟨n, hnn⟩ : ∃ n, ms.length = n := ⟨_, rfl⟩
  have HN := Lib.hid hnn
  rw [hnn] at c0 hl hn10
  have HH := Lib.hid (show MemsAt P 3 W1 (.slice A n c) ms by rw [← hnn]; exact H.out)
  have HSN := Lib.hid (show s < 2 ^ n by rw [← hnn]; exact HS.out)
  rw [hnn]
  clear hnn
  go_wp2_with fail
  refine (inmembers_run A n c hn10 _).mono ?_
  rintro e W2x ⟨rfl, hb2⟩
  have HB2 := Lib.hid (bstep HBw.out hb2)
  clear hb2 c0
  have hp10 : 2 ^ n ≤ 2 ^ 10 := Nat.pow_le_pow_right (by omega) hn10
  have HPM := Lib.hid (fun W => psubs_run (2 ^ n - 1) (by omega) W)
  obtain ⟨M, hM⟩ : ∃ M, 2 ^ n - 1 = M := ⟨_, rfl⟩
  have HM := Lib.hid hM
  rw [hM] at HPM ⊢
  clear hM hp10
  go_wp2_with fail
  refine (HPM.out _).mono ?_
  rintro e W6 ⟨vr, l, n', rfl, hown, hn10', hsn', hfound, hb6⟩
  have HB6 := Lib.hid (bstep HB2.out hb6)
  have HF := Lib.hid (show ∀ L, FilOf (fun b => Sub s b ∧ b.testBit k0 = false) l l.length L → ArIs n s k0 L from fun L h => FilOf.done (n := n) (n' := n') (by rw [HM.out]; exact hsn') (by rw [HM.out]; exact hfound) h)
  have HFB := Lib.hid (show ∀ b, b ∈ l → b < 2 ^ n from fun b hb => by
    have h := ((hfound.2.1 b).1 hb).2
    refine Nat.lt_pow_two_of_testBit _ (fun k hk => ?_)
    cases hbk : b.testBit k
    · rfl
    · have h5 := sub_bits.1 h k hbk
      rw [← HM.out, Nat.testBit_two_pow_sub_one, decide_eq_true_iff] at h5
      omega)
  have hlen := hfound.2.2
  have hnv := NodesAt.of_ownZ hown
  obtain ⟨Nn, cn, rfl⟩ := hnv.slice
  have hzl : (zs l).length = l.length := by unfold zs; simp
  rw [hzl] at hnv ⊢
  obtain ⟨m, hm⟩ : ∃ m, l.length = m := ⟨_, rfl⟩
  rw [hm] at hnv hlen HF ⊢
  have HNV := Lib.hid hnv
  have HML := Lib.hid hm
  obtain ⟨i0, hin, hz0, hz1, hz2⟩ := info_parts infoInt
  clear hb6 hnv hm hown hfound hsn' hn10' hzl HPM
  go_wp2_with fail
  go_loopw [7, 14] (fun u t W => ∃ (k : Nat) (v : Value) (L : List Nat), k ≤ m ∧ u = v ∧ t = .int .i64 (k : Int) ∧ W.ownsRow W6.heap.size 3 1 v L.length ((zs L).map (Value.int .i64)) ∧ Hid (FilOf (fun b => Sub s b ∧ b.testBit k0 = false) l k L) ∧ Hid (Below W6.heap.size W6 W)) (fun _ t _ => m - (intOf t).toNat)
  case atStart => exact ⟨0, _, [], Nat.zero_le _, rfl, rfl, World.ownsRow_nil _ _ _ _, Lib.hid (FilOf.zero _ _), Lib.hid (bref _)⟩
  case round =>
    obtain ⟨k, v, L, hk, hv, rfl, hown, hAll, hBe⟩ := hrel
    subst hv
    have hszb := hBe.out.size
    have hLl : L.length ≤ k := by have := hAll.out.1.length_le; rw [List.length_take] at this; omega
    by_cases hlt : k < m
    · obtain ⟨An, cn', hAn, hcl⟩ := HNV.out
      injection hAn with q1 q2 q3
      subst q1
      obtain ⟨bn, on, hbn, _, hcn⟩ := hcl k (by unfold zs; rw [List.length_map, HML.out]; exact hlt)
      subst hbn
      obtain ⟨b, hb⟩ : ∃ b, l[k]? = some b := ⟨_, List.getElem?_eq_getElem (by rw [HML.out]; exact hlt)⟩
      rw [zs_getD hb] at hcn
      have hb2 := HFB.out b (List.mem_of_getElem? hb)
      have hp10 : 2 ^ n ≤ 2 ^ 10 := Nat.pow_le_pow_right (by omega) (by omega)
      have hb10 : b < 1024 := by omega
      clear hb2 hp10
      have n0 : wr.cell? ⟨bn, on + k, none⟩ = some (.int .i64 (b : Int)) := (hBe.out.cell (cell_lt hcn)).trans hcn
      have han : bits .andNot .i64 (s : Int) (b : Int) = ((minS s b : Nat) : Int) := andNot_nat s b hs10 hb10
      have HZ := Lib.hid (minS_zero_iff (s := s) (b := b))
      generalize minS s b = z at han HZ
      have HB := Lib.hid hb
      have HOWN := Lib.hid hown
      clear hcl hcn q2 q3 hb
      by_cases hz : z = 0
      · have HSU := Lib.hid (HZ.out.1 hz)
        subst hz
        go_wp2_with fail
        refine (has_run _ _ _).mono ?_
        rintro e W7 ⟨rfl, rfl⟩
        rw [hasB_bit hb10 HKL.out]
        obtain ⟨x, hx⟩ : ∃ x, b.testBit k0 = x := ⟨_, rfl⟩
        have HX := Lib.hid hx
        rw [hx]
        have hown7 := HOWN.out
        clear hx n0 hown
        cases x
        · have HA := Lib.hid (hAll.out.add HB.out ⟨HSU.out, HX.out⟩)
          have hszz := hBe.out.size
          go_wp2_with (at_builtin; refine wpList_append_own _ rfl _ _ 22 rfl W6.heap.size 3 i0 (.int .i64 0) 1 8 Tryz.underlying22 hin hz0 hz1 hz2 rfl (by decide) _ _ _ rfl (hown7.alloc _) ⟨wr.heap.size, 0, none⟩ 1 1 [.int .i64 (b : Int)] rfl rfl (cell_one_new _ _ _) (fun u hu => by simp at hu; subst hu; rfl) (by unfold maxLen; omega) (by omega) (by simp; omega) ?_; intro v' w1 hown' hgrow hnil)
          have HO := Lib.hid (own_snoc hown')
          have HB4 := Lib.hid (Below.grown (balloc hBe.out (.cells #[.int .i64 (b : Int)] 3)) hgrow (by simp; omega) (fun j hj => (hown7.lt j hj).1))
          clear hown' hgrow hnil hown7
          go_roundw
          case rel => exact ⟨k + 1, _, L ++ [b], by omega, rfl, by go_num, by simpa [zs] using HO.out, HA, HB4⟩
          case measure => simp [intOf]; omega
        · have HA := Lib.hid (hAll.out.skip HB.out (fun h => by have h2 := h.2; rw [HX.out] at h2; cases h2))
          clear hown7
          go_wp2_with fail
          go_roundw
          case rel => exact ⟨k + 1, _, L, by omega, rfl, by go_num, HOWN.out, HA, hBe⟩
          case measure => simp [intOf]; omega
      · have hzi : ¬ ((z : Nat) : Int) = 0 := by omega
        have HA := Lib.hid (hAll.out.skip HB.out (fun h => hz (HZ.out.2 h.1)))
        clear hown
        go_wp2_with fail
        go_roundw
        case rel => exact ⟨k + 1, _, L, by omega, rfl, by go_num, HOWN.out, HA, hBe⟩
        case measure => simp [intOf]; omega
    · obtain rfl : k = m := by omega
      have HBF := Lib.hid (bstep HB6.out hBe.out)
      have HAL := Lib.hid (HF.out L hAll.out)
      have hge : w.heap.size ≤ W6.heap.size := HB6.out.size
      have HNF := Lib.hid ((NodesAt.of_ownZ hown).both (w' := wr) (Q := fun b => w.heap.size ≤ b) (fun _ _ _ => rfl) (fun q _ hq => by have : W6.heap.size ≤ q := hq; show w.heap.size ≤ q; omega))
      clear hown
      go_wp2_with fail
      go_ret
      exact ⟨⟨_, L, rfl, HNF.out, by rw [HN.out]; exact HAL.out⟩, HBF.out⟩

end Go.Proofs.YtacpfcckilnbfaaGreat
