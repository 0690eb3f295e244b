/- Fused. -/
import Derived.Test.YtfghnkgllmofgaaRawRight
import Derived.Test.YtfghnkgllmofgaaRawTraceRun
import Derived.Test.YtfghnkgllmofgaaAwake12
import Derived.Test.YtfghnkgllmofgaaRefHolds
namespace Go.Proofs.Ytfghnkgllmofgaa
set_option linter.unusedVariables false
set_option linter.unusedSimpArgs false
open Go.RowKit

set_option maxHeartbeats 2000000 in
theorem rcheck_any (P Q : Nat → Prop) (ms : List Mem) (v : Value) (n : Nat) (x0 x1 x2 : Value) (w : World) (hl : ms.length ≤ 10) (h : MemsAt P 2 w v ms) (hok : MemsOk ms.length ms) (hT : RawT Q n w x0 x1 x2) :
    Calls Try.prog 9 #[.agg #[v], .agg #[x0, x1, x2]] w fun e w' => RtOk 2 ms 0 0 e ∧ Below w.heap.size w w' := by
  obtain ⟨A, c, rfl⟩ := h.slice
  obtain ⟨K1, N1, A1, m1, c1, rfl, rfl, rfl⟩ := hT.form
  have hb1 : Below w.heap.size w ((w.alloc (.cells #[.slice A ms.length c] 27)).alloc (.cells #[.int .i64 K1, .int .i64 N1, .slice A1 m1 c1] 31)) := balloc (balloc (bref w) _) _
  have k0 : ((w.alloc (.cells #[.slice A ms.length c] 27)).alloc (.cells #[.int .i64 K1, .int .i64 N1, .slice A1 m1 c1] 31)).heap[w.heap.size]? = some (.cells #[.slice A ms.length c] 27 (0, 0)) := alloc_on (alloc_at rfl)
  have k1 : ((w.alloc (.cells #[.slice A ms.length c] 27)).alloc (.cells #[.int .i64 K1, .int .i64 N1, .slice A1 m1 c1] 31)).heap[w.heap.size + 1]? = some (.cells #[.int .i64 K1, .int .i64 N1, .slice A1 m1 c1] 31 (0, 0)) := alloc_at (alloc_sz _ _)
  have H := Lib.hid (h.below hb1)
  have HT := Lib.hid (hT.below hb1)
  have HB := Lib.hid hb1
  have K0 := Lib.hid k0
  have K1' := Lib.hid k1
  clear h hb1 k0 k1 hT
  go_enter Try.func9, Try.ntmps9
  go_upto_region 1 with fail
  generalize ((w.alloc (.cells #[.slice A ms.length c] 27)).alloc (.cells #[.int .i64 K1, .int .i64 N1, .slice A1 m1 c1] 31)) = W1 at *
  generalize hg : w.heap.size = g at *
  have HG := Lib.hid hg
  clear hg
  have c0 : W1.cell? ⟨g, 0, none⟩ = some (.slice A ms.length c) := cell_of_row _ _ 0 _ _ (0, 0) K0.out
  have t0 : TOut W1 (g + 1) (.int .i64 K1) (.int .i64 N1) (.slice A1 m1 c1) := K1'.out
  have HTO := Lib.hid t0
  have HBw := Lib.hid (show Below w.heap.size w W1 by rw [HG.out]; exact HB.out)
  clear t0
  go_wp2_with fail
  refine (cvalid_run P ms _ _ hl H.out hok).mono ?_
  rintro e W2 ⟨rfl, hb2⟩
  have c2 := (hb2.cell (cell_lt c0)).trans c0
  obtain ⟨p0, p1, p2⟩ := HTO.out.cs
  have d0 := (hb2.cell (cell_lt p0)).trans p0
  have d1 := (hb2.cell (cell_lt p1)).trans p1
  have d2 := (hb2.cell (cell_lt p2)).trans p2
  have HB2 := Lib.hid (bstep HBw.out hb2)
  have H2 := Lib.hid (H.out.below hb2)
  have HT2 := Lib.hid (HT.out.below hb2)
  clear hb2 c0 p0 p1 p2
  go_wp2_with fail
  refine (rright_any P Q 2 ms _ hl n _ _ _ 0 0 _ (by omega) (by omega) H2.out HT2.out).mono ?_
  rintro e W3 ⟨⟨b, rfl, hs⟩, hb3⟩
  have HS := Lib.hid hs
  have q0 := (hb3.cell (cell_lt d0)).trans d0
  have q1 := (hb3.cell (cell_lt d1)).trans d1
  have q2 := (hb3.cell (cell_lt d2)).trans d2
  have HB3 := Lib.hid (bstep HB2.out hb3)
  have HT3 := Lib.hid (HT2.out.below hb3)
  clear hb3 c2 d0 d1 d2 hs
  cases b
  · go_wp2_with fail
    go_ret
    exact ⟨⟨_, rfl, fun h => by cases h⟩, HB3.out⟩
  · go_wp2_with fail
    refine (rsize_any Q n _ _ _ _ HT3.out).mono ?_
    rintro e W4 ⟨k', rfl, hb4⟩
    have HB4 := Lib.hid (bstep HB3.out hb4)
    clear hb4 q0 q1 q2
    go_wp2_with fail
    go_ret
    exact ⟨⟨_, rfl, fun _ => HS.out (by simp)⟩, HB4.out⟩

set_option maxHeartbeats 2000000 in
theorem small_run (P : Nat → Prop) (n : Nat) (x0 x1 x2 : Value) (w : World) (h : RawT P n w x0 x1 x2) :
    Calls Try.prog 13 #[.agg #[x0, x1, x2]] w fun e w' => (∃ b : Bool, e = .returned (.bool b)) ∧ Below w.heap.size w w' := by
  have H := Lib.hid h
  obtain ⟨K1, N1, A1, m1, c1, rfl, rfl, rfl⟩ := h.form
  clear h
  go_enter Try.func13, Try.ntmps13
  go_wp2_with fail
  refine (branches_run P n _ _ _ 0 _ (H.out.below (balloc (bref _) _))).mono ?_
  rintro e W2 ⟨k', rfl, hb⟩
  have HB := Lib.hid (bstep (balloc (bref w) _) hb)
  clear hb
  go_wp2_with fail
  go_ret
  exact ⟨⟨_, rfl⟩, HB.out⟩

set_option maxHeartbeats 2000000 in
theorem mkTrace_run (sb : Nat) (ms : List Mem) (v : Value) (hl0 : 1 ≤ ms.length) (hl : ms.length ≤ 10) (w : World) (mis : Bool) (hs : TapeOk w sb) (h : MemsAt (fun b => sb < b) 2 w v ms) :
    Calls Try.prog 10 #[.pointer (some ⟨sb, 0, none⟩), .agg #[v], .bool mis] w fun e w' => (∃ x0 x1 x2, e = .returned (.agg #[x0, x1, x2]) ∧ RawT (fun b => w.heap.size ≤ b) (ms.length + 1) w' x0 x1 x2) ∧ TapeOk w' sb ∧ w.grownBy w' (some sb) := by
  obtain ⟨A, c, rfl⟩ := h.slice
  have hsl := hs.lt
  have hba : Below w.heap.size w ((w.alloc (.cells #[.slice A ms.length c] 27)).alloc (.cells #[.int .i64 0, .int .i64 0, .slice none 0 0] 31)) := balloc (balloc (bref w) _) _
  have HM := Lib.hid (show TPre w sb w.heap.size (.slice A ms.length c) ms ((w.alloc (.cells #[.slice A ms.length c] 27)).alloc (.cells #[.int .i64 0, .int .i64 0, .slice none 0 0] 31)) from
    ⟨hs.below hba, alloc_on (alloc_at rfl), (h.both (fun q hq hP => rfl) (fun q hq hP => ⟨hP, hq⟩)).below hba, hsl, Nat.le_refl _, grown_below hba, alloc_at (alloc_sz _ _)⟩)
  have HSZ := Lib.hid (show ((w.alloc (.cells #[.slice A ms.length c] 27)).alloc (.cells #[.int .i64 0, .int .i64 0, .slice none 0 0] 31)).heap.size = w.heap.size + 2 by rw [alloc_sz, alloc_sz])
  clear h hs hba
  go_enter Try.func10, Try.ntmps10
  go_upto_region 1 with fail
  generalize ((w.alloc (.cells #[.slice A ms.length c] 27)).alloc (.cells #[.int .i64 0, .int .i64 0, .slice none 0 0] 31)) = W1 at *
  have c1 := HM.out.cell
  go_wp2_with fail
  refine (trace_any sb ms _ hl0 hl (ms.length + 1) _ 0 0 mis (by omega) (by omega) (by have := und_le ms.length 0 0; omega) HM.out.tape (HM.out.mems.both (fun _ _ _ => rfl) (fun _ _ h => h.1))).mono ?_
  rintro e W2 ⟨⟨x0, x1, x2, rfl, hT⟩, hs2, hg2⟩
  obtain ⟨K1, N1, A1, m1, c2, rfl, rfl, rfl⟩ := hT.form
  have HM2 := Lib.hid (HM.out.grown hs2 hg2)
  have HT := Lib.hid (hT.both (Q := fun b => w.heap.size ≤ b) (w' := ((W2.setCell ⟨w.heap.size + 1, 0, none⟩ (.int .i64 K1)).setCell ⟨w.heap.size + 1, 1, none⟩ (.int .i64 N1)).setCell ⟨w.heap.size + 1, 2, none⟩ (.slice A1 m1 c2)) (by simp only [World.setCell, Array.size_modify]; exact Nat.le_refl _) (fun q hq hP => TOut.far _ _ _ q (by have := HSZ.out; omega)) (fun q hq hP => by have := HSZ.out; omega))
  have zo := HM2.out.res
  obtain ⟨z0, z1, z2⟩ := zo.cs
  have f0 := zo.fr 0
  have f1 := zo.fr 1
  have f2 := zo.fr 2
  have HQ := Lib.hid (zo.set (.int .i64 K1) (.int .i64 N1) (.slice A1 m1 c2)).cs
  have HF := Lib.hid (HM2.out.fin (.int .i64 K1) (.int .i64 N1) (.slice A1 m1 c2))
  clear zo hT hs2 hg2 c1
  go_wp2_with fail
  obtain ⟨q0, q1, q2⟩ := HQ.out
  refine bodyPost_ret (v := .agg #[.int .i64 K1, .int .i64 N1, .slice A1 m1 c2]) ?_ rfl ⟨⟨_, _, _, rfl, HT.out⟩, HF.out⟩
  simp [results, Try.results10, go_sem, q0, q1, q2]
end Go.Proofs.Ytfghnkgllmofgaa

namespace Go.Proofs.Ytfghnkgllmofgaa
set_option linter.unusedVariables false
set_option linter.unusedSimpArgs false
open Go.RowKit

/-- How it stands before the five trees: the tape, the configuration, the tree that came in. -/
structure ISt (w : World) (sb g gr : Nat) (vc : Value) (ms : List Mem) (K0 N0 : Int) (A0 : Option Addr) (m0 c0 n1 : Nat) (W : World) : Prop where
  tape : TapeOk W sb
  out : W.heap[g]? = some (.cells #[vc] 27 (0, 0))
  box : TOut W gr (.int .i64 K0) (.int .i64 N0) (.slice A0 m0 c0)
  mems : MemsAt (fun b => sb < b) 2 W vc ms
  raw : RawT (fun b => b < w.heap.size) n1 W (.int .i64 K0) (.int .i64 N0) (.slice A0 m0 c0)
  hgr : gr < sb
  hw : w.heap.size ≤ gr
  hg : sb < g
  bel : Below w.heap.size w W
theorem ISt.cells {w W : World} {sb g gr : Nat} {vc : Value} {ms : List Mem} {K0 N0 : Int} {A0 : Option Addr} {m0 c0 n1 : Nat} (h : ISt w sb g gr vc ms K0 N0 A0 m0 c0 n1 W) : W.cell? ⟨g, 0, none⟩ = some vc ∧ (W.cell? ⟨gr, 0, none⟩ = some (.int .i64 K0) ∧ W.cell? ⟨gr, 1, none⟩ = some (.int .i64 N0) ∧ W.cell? ⟨gr, 2, none⟩ = some (.slice A0 m0 c0)) :=
  ⟨cell_of_row _ _ 0 _ _ (0, 0) h.out, h.box.cs⟩
theorem ISt.grown {w W W' : World} {sb g gr : Nat} {vc : Value} {ms : List Mem} {K0 N0 : Int} {A0 : Option Addr} {m0 c0 n1 : Nat} (h : ISt w sb g gr vc ms K0 N0 A0 m0 c0 n1 W) (hs : TapeOk W' sb) (hg : W.grownBy W' (some sb)) : ISt w sb g gr vc ms K0 N0 A0 m0 c0 n1 W' := by
  have h0 := h.hgr
  have h1 := h.hw
  have h2 := h.hg
  have hgl : g < W.heap.size := cell_lt h.cells.1
  exact ⟨hs, (hg.block _ hgl (by simp; omega)).trans h.out, h.box.keep (hg.block _ h.box.lt (by simp; omega)), h.mems.both (fun q hq hP => hg.block q hq (by simp; omega)) (fun _ _ h => h),
    h.raw.keep hg.size (fun q hq hP => hg.block q hq (by simp; omega)), h0, h1, h2, bgrownC h.bel hg (by omega)⟩
theorem ISt.bel' {w W W' : World} {sb g gr : Nat} {vc : Value} {ms : List Mem} {K0 N0 : Int} {A0 : Option Addr} {m0 c0 n1 : Nat} (h : ISt w sb g gr vc ms K0 N0 A0 m0 c0 n1 W) (hb : Below W.heap.size W W') : ISt w sb g gr vc ms K0 N0 A0 m0 c0 n1 W' := h.grown (h.tape.below hb) (grown_below hb)

theorem isRow_belowS {k : IntKind} {w w' : World} {a : Option Addr} {len cap : Nat} {zs : List Int} (h : IsRow k w a len cap zs) (hb : Below w.heap.size w w') : IsRow k w' a len cap zs := by
  rcases h with h | ⟨x, h1, h2, h3, h4, h5, h6⟩
  · exact .inl h
  · exact .inr ⟨x, h1, h2, h3, h4, fun i hi => (hb.cell (cell_lt (h5 i hi))).trans (h5 i hi), h6⟩

set_option maxRecDepth 100000 in
set_option maxHeartbeats 8000000 in
theorem walkIntersectionSound (a0 : Option Addr) (len0 cap0 : Nat) (z0 : List Int) (u1 w1 x1 : Value) (n1 : Nat) (w : World) (w0 : IsRow .i64 w a0 len0 cap0 z0) (wT1 : RawT (fun _ => True) n1 w u1 w1 x1) :
    Calls Try.prog 4 #[.slice a0 len0 cap0, .agg #[u1, w1, x1]] w fun e w' => e = .returned (.bool true) ∧ Below w.heap.size w w' := by
  obtain ⟨K0, N0, A0, m0, c0, rfl, rfl, rfl⟩ := wT1.form
  have hba0 := balloc (bref w) (.cells #[.int .i64 K0, .int .i64 N0, .slice A0 m0 c0] 31)
  have HRW := Lib.hid ((wT1.imp (Q := fun b => b < w.heap.size) (fun q hq _ => hq)).below hba0)
  have HR := Lib.hid (isRow_belowS w0 hba0)
  have HBX := Lib.hid (show TOut (w.alloc (.cells #[.int .i64 K0, .int .i64 N0, .slice A0 m0 c0] 31)) w.heap.size (.int .i64 K0) (.int .i64 N0) (.slice A0 m0 c0) from heap_alloc_new _ _)
  have HBA := Lib.hid hba0
  clear w0 wT1 hba0
  go_enter Try.func4, Try.ntmps4
  go_upto_region 1 with fail
  generalize (w.alloc (.cells #[.int .i64 K0, .int .i64 N0, .slice A0 m0 c0] 31)) = W1 at *
  obtain ⟨gr, hgr⟩ : ∃ gr, w.heap.size = gr := ⟨_, rfl⟩
  have HGR := Lib.hid hgr
  rw [hgr] at HBX ⊢
  clear hgr
  obtain ⟨b0, b1, b2⟩ := HBX.out.cs
  go_wp2_with fail
  refine (small_run _ n1 _ _ _ _ HRW.out).mono ?_
  rintro e W2 ⟨⟨b, rfl⟩, hb2⟩
  have HB2 := Lib.hid (bstep HBA.out hb2)
  have HRW2 := Lib.hid (HRW.out.below hb2)
  have HR2 := Lib.hid (isRow_belowS HR.out hb2)
  have HBX2 := Lib.hid (HBX.out.keep (hb2.block _ HBX.out.lt))
  clear hb2 b0 b1 b2
  cases b
  · go_wp2_with fail
    refine (awake12 _).mono ?_
    rintro e W3 ⟨rfl, hb3⟩
    have HZ := Lib.hid (bstep HB2.out hb3)
    clear hb3
    go_wp2_with fail
    go_ret
    exact ⟨rfl, HZ.out⟩
  · go_wp2_with fail
    refine (TNew_run _ _ _ _ _ HR2.out).mono ?_
    rintro e v0 ⟨rfl, hs0, hb0⟩
    have HS0 := Lib.hid hs0
    have HB0 := Lib.hid hb0
    have hsl := hs0.lt
    have hbl := HBX2.out.lt
    have HB3 := Lib.hid (bstep HB2.out hb0)
    have HRW3 := Lib.hid (HRW2.out.below hb0)
    have HBX3 := Lib.hid (HBX2.out.keep (hb0.block _ hbl))
    clear hs0 hb0
    go_wp2_with fail
    refine (config_run _ 7 (by omega) (by omega) _ HS0.out).mono ?_
    rintro e v2 ⟨cv, ms, rfl, hl0, hl2, hM, hok, hs2, hg2⟩
    obtain ⟨A, c, hcv, _⟩ := id hM
    obtain ⟨L, hL⟩ : ∃ L, ms.length = L := ⟨_, rfl⟩
    rw [hL] at hcv
    subst hcv
    have hsz0 : W2.heap.size < v0.heap.size := HS0.out.lt
    have hz2 := hg2.size
    have hba := balloc (bref v2) (.cells #[.slice A L c] 27)
    have H5 := Lib.hid (show ISt w W2.heap.size v2.heap.size gr (.slice A L c) ms K0 N0 A0 m0 c0 n1 (v2.alloc (.cells #[.slice A L c] 27)) from
      ⟨hs2.alloc _, alloc_at rfl, HBX3.out.keep ((hba.block _ (by omega)).trans (hg2.block _ (by omega) (by simp; omega))), (hM.both (Q := fun b => W2.heap.size < b) (fun _ _ _ => rfl) (fun k _ hk => by omega)).below hba,
       (HRW3.out.keep hz2 (fun q hq hP => hg2.block q hq (by simp; have := HGR.out; omega))).below hba, hbl, by have := HGR.out; omega, by omega, bstep (bgrownC HB3.out hg2 (by have := HGR.out; omega)) hba⟩)
    have HL := Lib.hid hL
    have HOK := Lib.hid hok
    have hl10 : ms.length ≤ 10 := by omega
    clear hM hok hs2 hg2 hba HS0 HB0 hl2 HBX HBX2 HBX3 HRW HRW2 HRW3 HR HR2 HB2 HB3 HBA
    go_upto_region 5 with fail
    generalize v2.alloc (.cells #[.slice A L c] 27) = W5 at *
    generalize v2.heap.size = g at *
    generalize W2.heap.size = sb at *
    have cc := H5.out.cells.1
    go_wp2_with fail
    refine (rholds_run _ ms _ _ hl10 H5.out.mems HOK.out).mono ?_
    rintro e W6 ⟨⟨yes, rfl, hyes⟩, hb6⟩
    have HY := Lib.hid hyes
    have H6 := Lib.hid (H5.out.bel' hb6)
    clear hyes hb6 cc
    go_upto_region 6 with fail
    have H6' := Lib.hid (H6.out.bel' (bdrewT W6))
    have hS := Lib.hid H6'.out.cells
    refine wp_region_noPanic ?_
    refine wp_region_held_drew (S := fun W => W.cell? ⟨g, 0, none⟩ = some (.slice A L c) ∧ (W.cell? ⟨gr, 0, none⟩ = some (.int .i64 K0) ∧ W.cell? ⟨gr, 1, none⟩ = some (.int .i64 N0) ∧ W.cell? ⟨gr, 2, none⟩ = some (.slice A0 m0 c0))) (by kernel_rfl) hS.out (fun hHeld => ?_)
    have hSK := hHeld
    clear hHeld
    refine take_d (some 24) (i := 0) (v := ?_) rfl rfl (by kernel_rfl) (by kernel_rfl) (by kernel_rfl) (fun _ _ _ h => h) (Or.inl ⟨by rfl, ?_⟩) (by assumption) ?_
    rotate_left
    · intro w hSw; (try dsimp only at hSw); go_simp; (try with_reducible rfl)
    try simp only [Act.put, List.setIfInBounds_toArray, List.set_cons_zero, List.set_cons_succ]
    refine take_d (some 25) (i := 1) (v := ?_) rfl rfl (by kernel_rfl) (by kernel_rfl) (by kernel_rfl) (fun _ _ _ h => h) (Or.inl ⟨by rfl, ?_⟩) (by assumption) ?_
    rotate_left
    · intro w hSw; (try dsimp only at hSw); go_simp; (try with_reducible rfl)
    try simp only [Act.put, List.setIfInBounds_toArray, List.set_cons_zero, List.set_cons_succ]
    refine take_d (some 27) (i := 3) (v := ?_) rfl rfl (by kernel_rfl) (by kernel_rfl) (by kernel_rfl) (fun _ _ _ h => h) (Or.inl ⟨by rfl, ?_⟩) (by assumption) ?_
    rotate_left
    · intro w hSw; (try dsimp only at hSw); go_simp; (try with_reducible rfl)
    try simp only [Act.put, List.setIfInBounds_toArray, List.set_cons_zero, List.set_cons_succ]
    refine take_d (some 28) (i := 4) (v := ?_) rfl rfl (by kernel_rfl) (by kernel_rfl) (by kernel_rfl) (fun _ _ _ h => h) (Or.inl ⟨by rfl, ?_⟩) (by assumption) ?_
    rotate_left
    · intro w hSw; (try dsimp only at hSw); go_simp; (try with_reducible rfl)
    try simp only [Act.put, List.setIfInBounds_toArray, List.set_cons_zero, List.set_cons_succ]
    refine take_d (some 30) (i := 6) (v := ?_) rfl rfl (by kernel_rfl) (by kernel_rfl) (by kernel_rfl) (fun _ _ _ h => h) (Or.inl ⟨by rfl, ?_⟩) (by assumption) ?_
    rotate_left
    · intro w hSw; (try dsimp only at hSw); go_simp; (try with_reducible rfl)
    try simp only [Act.put, List.setIfInBounds_toArray, List.set_cons_zero, List.set_cons_succ]
    refine take_d (some 31) (i := 7) (v := ?_) rfl rfl (by kernel_rfl) (by kernel_rfl) (by kernel_rfl) (fun _ _ _ h => h) (Or.inl ⟨by rfl, ?_⟩) (by assumption) ?_
    rotate_left
    · intro w hSw; (try dsimp only at hSw); go_simp; (try with_reducible rfl)
    try simp only [Act.put, List.setIfInBounds_toArray, List.set_cons_zero, List.set_cons_succ]
    refine take_d (some 32) (i := 8) (v := ?_) rfl rfl (by kernel_rfl) (by kernel_rfl) (by kernel_rfl) (fun _ _ _ h => h) (Or.inl ⟨by rfl, ?_⟩) (by assumption) ?_
    rotate_left
    · intro w hSw; (try dsimp only at hSw); go_simp; (try with_reducible rfl)
    try simp only [Act.put, List.setIfInBounds_toArray, List.set_cons_zero, List.set_cons_succ]
    refine take_d (some 35) (i := 11) (v := ?_) rfl rfl (by kernel_rfl) (by kernel_rfl) (by kernel_rfl) (fun _ _ _ h => h) (Or.inl ⟨by rfl, ?_⟩) (by assumption) ?_
    rotate_left
    · intro w hSw; (try dsimp only at hSw); go_simp; (try with_reducible rfl)
    try simp only [Act.put, List.setIfInBounds_toArray, List.set_cons_zero, List.set_cons_succ]
    refine wpAnyH_ready (rs := [2]) (by kernel_rfl) (by simp) ?_
    refine AllReadyH.cons rfl (fun K hK => ?_) AllReadyH.nil
    go_simp
    refine (mkTrace_run sb ms _ hl0 hl10 _ true H6'.out.tape (H6'.out.mems.both (fun _ _ _ => rfl) (fun _ _ h => h))).mono ?_
    rintro e WKa ⟨⟨u0, u1, u2, rfl, hTa⟩, hsK, hgK⟩
    obtain ⟨Ka, Na, Aa, ma, ca, rfl, rfl, rfl⟩ := hTa.form
    have HTa := Lib.hid hTa
    have H7 := Lib.hid (H6'.out.grown hsK hgK)
    have HGa := Lib.hid hgK
    clear hTa hsK hgK
    go_wp2_with fail
    refine hK.out _ _ ?_ (fun hHeld => ?_)
    · exact (show WKa.cell? ⟨g, 0, none⟩ = some (.slice A L c) ∧ (WKa.cell? ⟨gr, 0, none⟩ = some (.int .i64 K0) ∧ WKa.cell? ⟨gr, 1, none⟩ = some (.int .i64 N0) ∧ WKa.cell? ⟨gr, 2, none⟩ = some (.slice A0 m0 c0)) from H7.out.cells)
    clear hSK
    have hSK := hHeld
    clear hHeld
    clear hK K
    try simp only [Act.put, List.setIfInBounds_toArray, List.set_cons_zero, List.set_cons_succ]
    refine wpAnyH_ready (rs := [5]) (by kernel_rfl) (by simp) ?_
    refine AllReadyH.cons rfl (fun K hK => ?_) AllReadyH.nil
    go_simp
    refine (mkTrace_run sb ms _ hl0 hl10 _ true H7.out.tape (H7.out.mems.both (fun _ _ _ => rfl) (fun _ _ h => h))).mono ?_
    rintro e WKb ⟨⟨u0, u1, u2, rfl, hTb⟩, hsK, hgK⟩
    obtain ⟨Kb, Nb, Ab, mb, cb, rfl, rfl, rfl⟩ := hTb.form
    have HTb := Lib.hid hTb
    have H8 := Lib.hid (H7.out.grown hsK hgK)
    have HGb := Lib.hid hgK
    clear hTb hsK hgK
    go_wp2_with fail
    refine hK.out _ _ ?_ (fun hHeld => ?_)
    · exact (show WKb.cell? ⟨g, 0, none⟩ = some (.slice A L c) ∧ (WKb.cell? ⟨gr, 0, none⟩ = some (.int .i64 K0) ∧ WKb.cell? ⟨gr, 1, none⟩ = some (.int .i64 N0) ∧ WKb.cell? ⟨gr, 2, none⟩ = some (.slice A0 m0 c0)) from H8.out.cells)
    clear hSK
    have hSK := hHeld
    clear hHeld
    clear hK K
    try simp only [Act.put, List.setIfInBounds_toArray, List.set_cons_zero, List.set_cons_succ]
    refine wpAnyH_ready (rs := [9]) (by kernel_rfl) (by simp) ?_
    refine AllReadyH.cons rfl (fun K hK => ?_) AllReadyH.nil
    go_simp
    refine hK.out _ _ ?_ (fun hHeld => ?_)
    · exact (show (WKb.alloc (.cells #[.int .i64 Ka, .int .i64 Na, .slice Aa ma ca, .int .i64 Kb, .int .i64 Nb, .slice Ab mb cb, .int .i64 K0, .int .i64 N0, .slice A0 m0 c0, .int .i64 1, .int .i64 0, .slice none 0 0, .int .i64 2, .int .i64 0, .slice none 0 0] 31)).cell? ⟨g, 0, none⟩ = some (.slice A L c) ∧ ((WKb.alloc (.cells #[.int .i64 Ka, .int .i64 Na, .slice Aa ma ca, .int .i64 Kb, .int .i64 Nb, .slice Ab mb cb, .int .i64 K0, .int .i64 N0, .slice A0 m0 c0, .int .i64 1, .int .i64 0, .slice none 0 0, .int .i64 2, .int .i64 0, .slice none 0 0] 31)).cell? ⟨gr, 0, none⟩ = some (.int .i64 K0) ∧ (WKb.alloc (.cells #[.int .i64 Ka, .int .i64 Na, .slice Aa ma ca, .int .i64 Kb, .int .i64 Nb, .slice Ab mb cb, .int .i64 K0, .int .i64 N0, .slice A0 m0 c0, .int .i64 1, .int .i64 0, .slice none 0 0, .int .i64 2, .int .i64 0, .slice none 0 0] 31)).cell? ⟨gr, 1, none⟩ = some (.int .i64 N0) ∧ (WKb.alloc (.cells #[.int .i64 Ka, .int .i64 Na, .slice Aa ma ca, .int .i64 Kb, .int .i64 Nb, .slice Ab mb cb, .int .i64 K0, .int .i64 N0, .slice A0 m0 c0, .int .i64 1, .int .i64 0, .slice none 0 0, .int .i64 2, .int .i64 0, .slice none 0 0] 31)).cell? ⟨gr, 2, none⟩ = some (.slice A0 m0 c0)) from (H8.out.bel' (balloc (bref _) _)).cells)
    clear hSK
    have hSK := hHeld
    clear hHeld
    clear hK K
    try simp only [Act.put, List.setIfInBounds_toArray, List.set_cons_zero, List.set_cons_succ]
    refine take_d (some 34) (i := 10) (v := ?_) rfl rfl (by kernel_rfl) (by kernel_rfl) (by kernel_rfl) (fun _ _ _ h => h) (Or.inl ⟨by rfl, ?_⟩) (by assumption) ?_
    rotate_left
    · intro w hSw; (try dsimp only at hSw); go_simp; (try with_reducible rfl)
    try simp only [Act.put, List.setIfInBounds_toArray, List.set_cons_zero, List.set_cons_succ]
    refine wpAnyH_done (by kernel_rfl) ?_ _
    refine NoPanic.normal ?_
    have H9 := Lib.hid (H8.out.bel' (balloc (bref WKb) (.cells #[.int .i64 Ka, .int .i64 Na, .slice Aa ma ca, .int .i64 Kb, .int .i64 Nb, .slice Ab mb cb, .int .i64 K0, .int .i64 N0, .slice A0 m0 c0, .int .i64 1, .int .i64 0, .slice none 0 0, .int .i64 2, .int .i64 0, .slice none 0 0] 31)))
    have HARR := Lib.hid (show RawT (fun _ => True) (n1 + L + 2) (WKb.alloc (.cells #[.int .i64 Ka, .int .i64 Na, .slice Aa ma ca, .int .i64 Kb, .int .i64 Nb, .slice Ab mb cb, .int .i64 K0, .int .i64 N0, .slice A0 m0 c0, .int .i64 1, .int .i64 0, .slice none 0 0, .int .i64 2, .int .i64 0, .slice none 0 0] 31)) (.int .i64 0) (.int .i64 0) (.slice (some ⟨WKb.heap.size, 0, none⟩) 5 5) from by
      have hb9 : Below WKb.heap.size WKb (WKb.alloc (.cells #[.int .i64 Ka, .int .i64 Na, .slice Aa ma ca, .int .i64 Kb, .int .i64 Nb, .slice Ab mb cb, .int .i64 K0, .int .i64 N0, .slice A0 m0 c0, .int .i64 1, .int .i64 0, .slice none 0 0, .int .i64 2, .int .i64 0, .slice none 0 0] 31)) := balloc (bref WKb) _
      have row : ∀ j u, ([.int .i64 Ka, .int .i64 Na, .slice Aa ma ca, .int .i64 Kb, .int .i64 Nb, .slice Ab mb cb, .int .i64 K0, .int .i64 N0, .slice A0 m0 c0, .int .i64 1, .int .i64 0, .slice none 0 0, .int .i64 2, .int .i64 0, .slice none 0 0] : List Value)[j]? = some u → (WKb.alloc (.cells #[.int .i64 Ka, .int .i64 Na, .slice Aa ma ca, .int .i64 Kb, .int .i64 Nb, .slice Ab mb cb, .int .i64 K0, .int .i64 N0, .slice A0 m0 c0, .int .i64 1, .int .i64 0, .slice none 0 0, .int .i64 2, .int .i64 0, .slice none 0 0] 31)).cell? ⟨WKb.heap.size, 0 + j, none⟩ = some u := fun j u hu => by
        rw [Nat.zero_add, cell_of_row _ _ j _ _ (0, 0) (heap_alloc_new _ _)]; simpa using hu
      have hlt : WKb.heap.size < (WKb.alloc (.cells #[.int .i64 Ka, .int .i64 Na, .slice Aa ma ca, .int .i64 Kb, .int .i64 Nb, .slice Ab mb cb, .int .i64 K0, .int .i64 N0, .slice A0 m0 c0, .int .i64 1, .int .i64 0, .slice none 0 0, .int .i64 2, .int .i64 0, .slice none 0 0] 31)).heap.size := by rw [alloc_sz]; omega
      have ta : RawT (fun _ => True) (n1 + L + 1) WKb (.int .i64 Ka) (.int .i64 Na) (.slice Aa ma ca) := (((HTa.out.keep HGb.out.size (fun q hq hP => HGb.out.block q hq (by simp; have := H6'.out.tape.lt; omega))).imp (fun _ _ _ => trivial))).le (by have := HL.out; omega)
      have tb : RawT (fun _ => True) (n1 + L + 1) WKb (.int .i64 Kb) (.int .i64 Nb) (.slice Ab mb cb) := (HTb.out.imp (fun _ _ _ => trivial)).le (by have := HL.out; omega)
      have tc : RawT (fun _ => True) (n1 + L + 1) WKb (.int .i64 K0) (.int .i64 N0) (.slice A0 m0 c0) := (H8.out.raw.imp (fun _ _ _ => trivial)).le (by omega)
      have tl : ∀ K : Int, RawT (fun _ => True) (n1 + L + 1) WKb (.int .i64 K) (.int .i64 0) (.slice none 0 0) := fun K => (RawT.leaf K 0 (by rfl)).le (by omega)
      refine ⟨0, 0, _, 5, 5, rfl, rfl, rfl, by rfl, by unfold maxLen; omega, fun i hi => ?_⟩
      match i, hi with
      | 0, _ => exact ⟨_, 0, _, _, _, rfl, trivial, hlt, row 0 _ rfl, row 1 _ rfl, row 2 _ rfl, ta.below hb9⟩
      | 1, _ => exact ⟨_, 0, _, _, _, rfl, trivial, hlt, row 3 _ rfl, row 4 _ rfl, row 5 _ rfl, tb.below hb9⟩
      | 2, _ => exact ⟨_, 0, _, _, _, rfl, trivial, hlt, row 6 _ rfl, row 7 _ rfl, row 8 _ rfl, tc.below hb9⟩
      | 3, _ => exact ⟨_, 0, _, _, _, rfl, trivial, hlt, row 9 _ rfl, row 10 _ rfl, row 11 _ rfl, (tl 1).below hb9⟩
      | 4, _ => exact ⟨_, 0, _, _, _, rfl, trivial, hlt, row 12 _ rfl, row 13 _ rfl, row 14 _ rfl, (tl 2).below hb9⟩)
    clear hSK hS HTa HTb HGa HGb H7 H8 H6 H6' H5
    generalize (WKb.alloc (.cells #[.int .i64 Ka, .int .i64 Na, .slice Aa ma ca, .int .i64 Kb, .int .i64 Nb, .slice Ab mb cb, .int .i64 K0, .int .i64 N0, .slice A0 m0 c0, .int .i64 1, .int .i64 0, .slice none 0 0, .int .i64 2, .int .i64 0, .slice none 0 0] 31)) = W9 at *
    generalize WKb.heap.size = ar at *
    go_wp2_with fail
    go_loopw [35] (fun t W => ∃ i : Nat, i ≤ 5 ∧ t = .int .i64 i ∧ Hid (Below W9.heap.size W9 W)) (fun t _ => 5 - (intOf t).toNat)
    case atStart => exact ⟨0, by omega, rfl, Lib.hid (bref _)⟩
    case round =>
      obtain ⟨i, hi, rfl, hB⟩ := hrel
      have H10 := Lib.hid (H9.out.bel' hB.out)
      by_cases hlt : i < 5
      · obtain ⟨_, _, _, _, _, h1, h2, h3, _, _, hk⟩ := HARR.out.below hB.out
        cases h3
        obtain ⟨q, off, y0, y1, y2, hq, _, _, e0, e1, e2, hr⟩ := hk i hlt
        cases hq
        obtain ⟨K2, N2, A2, m2, c2, rfl, rfl, rfl⟩ := hr.form
        rw [Nat.zero_add] at e0 e1 e2
        have hba2 := balloc (bref wr) (.cells #[.int .i64 K2, .int .i64 N2, .slice A2 m2 c2] 31)
        have H11 := Lib.hid (H10.out.bel' hba2)
        have HRR := Lib.hid (hr.below hba2)
        have HB2 := Lib.hid (bstep hB.out hba2)
        have hcc := H10.out.cells.1
        have hcc2 := H11.out.cells.1
        clear hr hk hba2 h1 h2
        go_wp2_with fail
        refine (rcheck_any _ _ ms _ _ _ _ _ _ hl10 H11.out.mems HOK.out HRR.out).mono ?_
        rintro e W12 ⟨⟨b, rfl, hb⟩, hb12⟩
        have HBB := Lib.hid hb
        have HB3 := Lib.hid (bstep HB2.out hb12)
        clear hb hb12 e0 e1 e2 hcc hcc2
        have hcase : b = false ∨ (b = true ∧ yes = true) := by
          cases b
          · exact Or.inl rfl
          · exact Or.inr ⟨rfl, HY.out.2 (fun t => snd_root hl10 (HBB.out rfl) t)⟩
        rcases hcase with rfl | ⟨rfl, rfl⟩
        all_goals
          go_wp2_with fail
          go_roundw
          case rel => exact ⟨i + 1, by omega, by go_num, HB3⟩
          case measure => simp [intOf]; omega
      · obtain rfl : i = 5 := by omega
        go_wp2_with fail
        refine (awake12 _).mono ?_
        rintro e W13 ⟨rfl, hb13⟩
        have HZ := Lib.hid (bstep H10.out.bel hb13)
        clear hb13
        go_wp2_with fail
        go_ret
        exact ⟨rfl, HZ.out⟩
end Go.Proofs.Ytfghnkgllmofgaa
