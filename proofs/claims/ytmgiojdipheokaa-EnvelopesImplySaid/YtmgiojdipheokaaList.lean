/- The contract of data.List over trusts, and threshold.Dual. -/
import Derived.Test.YtmgiojdipheokaaDual
namespace Go.Proofs.Ytmgiojdipheokaa
set_option linter.unusedVariables false
open Go.RowKit

/-- v is a slice of just these trusts. -/
def ListT (P : Nat → Prop) (d : Nat) (w : World) (v : Value) (is : List Tree) : Prop :=
  ∃ A c, v = .slice A is.length c ∧ ∀ k T, is[k]? = some T → ∃ b off x0 x1 x2, A = some ⟨b, off, none⟩ ∧ P b ∧ w.cell? ⟨b, off + k * 3, none⟩ = some x0 ∧ w.cell? ⟨b, off + k * 3 + 1, none⟩ = some x1 ∧ w.cell? ⟨b, off + k * 3 + 2, none⟩ = some x2 ∧ TAt P d w x0 x1 x2 T
/-- What a function over trusts does, where C holds of the trust. -/
def OneC (F : Nat) (d : Nat) (C : Tree → Prop) (f : Tree → Tree) : Prop :=
  ∀ (P : Nat → Prop) (T : Tree) (x0 x1 x2 : Value) (w : World), TAt P d w x0 x1 x2 T → C T →
    Calls Try.prog F #[.agg #[x0, x1, x2]] w fun e w' => ∃ y0 y1 y2, e = .returned (.agg #[y0, y1, y2]) ∧ TAt (fun b => w.heap.size ≤ b) d w' y0 y1 y2 (f T) ∧ Below w.heap.size w w'

set_option maxHeartbeats 2000000 in
set_option maxRecDepth 100000 in
theorem listDual_run (d : Nat) (C : Tree → Prop) (f : Tree → Tree) (hF : OneC 54 d C f) (P : Nat → Prop) (v : Value) (is : List Tree) (w : World) (hn : is.length ≤ 1000000) (h : ListT P d w v is) (hC : ∀ T ∈ is, C T) :
    Calls Try.prog 91 #[v, .func (.func 54) #[] #[]] w fun e w' => ∃ v', e = .returned v' ∧ ListT (fun b => w.heap.size ≤ b) d w' v' (is.map f) ∧ Below w.heap.size w w' := by
  obtain ⟨i0, hi, hz0, hz1, hz2⟩ := info_parts infoTrust
  obtain ⟨A, c, rfl, h1⟩ := h
  have HF := Lib.hid hF
  have H1 := Lib.hid h1
  have HC := Lib.hid hC
  clear hF h1 hC
  by_cases h0 : is.length = 0
  · have hl0 : ((is.length : Int) == 0) = true := by rw [h0]; rfl
    have hE := Lib.hid (List.eq_nil_of_length_eq_zero h0)
    clear h0
    go_enter Try.func91, Try.ntmps91
    go_wp2_with fail
    go_ret
    exact ⟨_, rfl, ⟨none, 0, by rw [hE.out]; rfl, fun k T hT => by rw [hE.out] at hT; simp at hT⟩, bref _⟩
  · have hl0 : ((is.length : Int) == 0) = false := by rw [beq_eq_false_iff_ne]; omega
    go_enter Try.func91, Try.ntmps91
    go_wp2_with (at_make; refine wpList_make_full _ rfl _ _ 39 rfl w.heap.size 41 i0 (.agg #[.int .i64 0, .slice none 0 0, .slice none 0 0]) 3 Try.underlying39 hi hz0 hz1 .i64 .i64 _ _ is.length rfl rfl rfl rfl (by rw [hz2]; omega) (by unfold maxLen; omega) (Nat.le_refl _) ?_; intro w1 hown hgrow)
    have hcs1 := hown.1
    have HB1 := Lib.hid (show Below w.heap.size w w1 from (bref w).grown hgrow (Nat.le_refl _) (fun j hj => by cases hj))
    have hgl : w.heap.size < w1.heap.size := (hown.lt w.heap.size rfl).2
    go_loopw [16] (fun t wr => ∃ (k : Nat) (cs : List Value), k ≤ is.length ∧ t = .int .i64 k ∧ Hid (wr.ownsRow w.heap.size 41 3 (.slice (some ⟨w.heap.size, 0, none⟩) is.length is.length) is.length cs) ∧
      Hid (∀ j T, j < k → is[j]? = some T → ∃ y0 y1 y2, cs[j * 3]? = some y0 ∧ cs[j * 3 + 1]? = some y1 ∧ cs[j * 3 + 2]? = some y2 ∧ TAt (fun b => w.heap.size < b) d wr y0 y1 y2 (f T)) ∧ Hid (Below w.heap.size w wr)) (fun t _ => is.length - (intOf t).toNat)
    case atStart => exact ⟨0, _, by omega, rfl, Lib.hid hown, Lib.hid (fun j T hj => by omega), HB1⟩
    case round =>
      clear hown hgrow hcs1 HB1 hgl
      obtain ⟨k, cs, hk, rfl, hO, hY, hB⟩ := hrel
      have hcl := hO.out.1
      have hgl := (hO.out.lt w.heap.size rfl).2
      by_cases hlt : k < is.length
      · obtain ⟨T, hT⟩ : ∃ T, is[k]? = some T := ⟨_, List.getElem?_eq_getElem hlt⟩
        obtain ⟨b, off, x0, x1, x2, rfl, hPb, c0, c1, c2, hTk⟩ := H1.out k T hT
        obtain ⟨t', A', n', ca, B', m', cb, rfl, rfl, rfl⟩ := hTk.form
        have hbl := cell_lt c0
        simp only at hbl
        have e0 : wr.cell? ⟨b, off + k * 3, none⟩ = some (.int .i64 t') := (hB.out.cell (p := ⟨b, off + k * 3, none⟩) hbl).trans c0
        have e1 : wr.cell? ⟨b, off + k * 3 + 1, none⟩ = some (.slice A' n' ca) := (hB.out.cell (p := ⟨b, off + k * 3 + 1, none⟩) hbl).trans c1
        have e2 : wr.cell? ⟨b, off + k * 3 + 2, none⟩ = some (.slice B' m' cb) := (hB.out.cell (p := ⟨b, off + k * 3 + 2, none⟩) hbl).trans c2
        have hTr := Lib.hid ((hTk.below hB.out).below (balloc (bref wr) (.cells #[.int .i64 t', .slice A' n' ca, .slice B' m' cb] 41)))
        have hCT := Lib.hid (HC.out T (List.mem_of_getElem? hT))
        have HT := Lib.hid hT
        have hO1 := Lib.hid (hO.out.alloc (.cells #[.int .i64 t', .slice A' n' ca, .slice B' m' cb] 41))
        have hB1 := Lib.hid (balloc hB.out (.cells #[.int .i64 t', .slice A' n' ca, .slice B' m' cb] 41))
        clear c0 c1 c2 hTk hT
        go_wp2_with fail
        refine (HF.out P T _ _ _ _ hTr.out hCT.out).mono ?_
        rintro e w2 ⟨z0, z1, z2, rfl, hz, hb2⟩
        obtain ⟨t2, A2, n2, ca2, B2, m2, cb2, rfl, rfl, rfl⟩ := hz.form
        have hO2 := hO1.out.kept (grown_below (r := none) hb2) (.inr (by simp [Value.ownBlock]))
        have f0 : w2.cell? ⟨w.heap.size, k * 3, none⟩ = cs[k * 3]? := hO2.cellAt (k * 3) (by omega)
        have f1 : w2.cell? ⟨w.heap.size, k * 3 + 1, none⟩ = cs[k * 3 + 1]? := hO2.cellAt (k * 3 + 1) (by omega)
        have f2 : w2.cell? ⟨w.heap.size, k * 3 + 2, none⟩ = cs[k * 3 + 2]? := hO2.cellAt (k * 3 + 2) (by omega)
        rw [List.getElem?_eq_getElem (by omega)] at f0 f1 f2
        have g0 := hO2.frozenAt (k * 3)
        have g1 := hO2.frozenAt (k * 3 + 1)
        have g2 := hO2.frozenAt (k * 3 + 2)
        generalize cs[k * 3]'(by omega) = u0 at f0
        generalize cs[k * 3 + 1]'(by omega) = u1 at f1
        generalize cs[k * 3 + 2]'(by omega) = u2 at f2
        have hO3 := Lib.hid ((((hO2.stored (k * 3) (.int .i64 t2)).1.stored (k * 3 + 1) (.slice A2 n2 ca2)).1.stored (k * 3 + 2) (.slice B2 m2 cb2)).1)
        have hB2 := Lib.hid (bset (bset (bset (bstep hB1.out hb2) (p := ⟨w.heap.size, k * 3, none⟩) (Nat.le_refl _) (.int .i64 t2)) (p := ⟨w.heap.size, k * 3 + 1, none⟩) (Nat.le_refl _) (.slice A2 n2 ca2)) (p := ⟨w.heap.size, k * 3 + 2, none⟩) (Nat.le_refl _) (.slice B2 m2 cb2))
        have hfar : ∀ q, q ≠ w.heap.size → (((w2.setCell ⟨w.heap.size, k * 3, none⟩ (.int .i64 t2)).setCell ⟨w.heap.size, k * 3 + 1, none⟩ (.slice A2 n2 ca2)).setCell ⟨w.heap.size, k * 3 + 2, none⟩ (.slice B2 m2 cb2)).heap[q]? = w2.heap[q]? := fun q hq =>
          (Below.heap_setCell _ _ _ _ (by simpa using hq)).trans ((Below.heap_setCell _ _ _ _ (by simpa using hq)).trans (Below.heap_setCell _ _ _ _ (by simpa using hq)))
        have hY3 : Hid (∀ j T, j < k + 1 → is[j]? = some T → ∃ y0 y1 y2, (((cs.set (k * 3) (.int .i64 t2)).set (k * 3 + 1) (.slice A2 n2 ca2)).set (k * 3 + 2) (.slice B2 m2 cb2))[j * 3]? = some y0 ∧ (((cs.set (k * 3) (.int .i64 t2)).set (k * 3 + 1) (.slice A2 n2 ca2)).set (k * 3 + 2) (.slice B2 m2 cb2))[j * 3 + 1]? = some y1 ∧ (((cs.set (k * 3) (.int .i64 t2)).set (k * 3 + 1) (.slice A2 n2 ca2)).set (k * 3 + 2) (.slice B2 m2 cb2))[j * 3 + 2]? = some y2 ∧
            TAt (fun b => w.heap.size < b) d (((w2.setCell ⟨w.heap.size, k * 3, none⟩ (.int .i64 t2)).setCell ⟨w.heap.size, k * 3 + 1, none⟩ (.slice A2 n2 ca2)).setCell ⟨w.heap.size, k * 3 + 2, none⟩ (.slice B2 m2 cb2)) y0 y1 y2 (f T)) := Lib.hid (by
          intro j T' hj hT'
          rcases Nat.lt_or_ge j k with hjk | hjk
          · obtain ⟨y0, y1, y2, a0, a1, a2, a3⟩ := hY.out j T' hjk hT'
            refine ⟨y0, y1, y2, ?_, ?_, ?_, ?_⟩
            · rw [List.getElem?_set_ne (by omega), List.getElem?_set_ne (by omega), List.getElem?_set_ne (by omega)]; exact a0
            · rw [List.getElem?_set_ne (by omega), List.getElem?_set_ne (by omega), List.getElem?_set_ne (by omega)]; exact a1
            · rw [List.getElem?_set_ne (by omega), List.getElem?_set_ne (by omega), List.getElem?_set_ne (by omega)]; exact a2
            · exact TAt.keep (fun q _ hq => hfar q (by omega)) (TAt.below (TAt.below a3 (balloc (bref wr) (.cells #[.int .i64 t', .slice A' n' ca, .slice B' m' cb] 41))) hb2)
          · obtain rfl : j = k := by omega
            have hTT : T' = T := by rw [HT.out] at hT'; exact (Option.some.inj hT').symm
            subst hTT
            refine ⟨_, _, _, ?_, ?_, ?_, TAt.both (fun q _ hq => hfar q (by simp at hq; omega)) (fun q _ hq => by simp at hq; omega) _ _ _ _ _ hz⟩
            · rw [List.getElem?_set_ne (by omega), List.getElem?_set_ne (by omega), List.getElem?_set_self (by omega)]
            · rw [List.getElem?_set_ne (by omega), List.getElem?_set_self (by simp; omega)]
            · rw [List.getElem?_set_self (by simp; omega)])
        clear hO2 hz hb2 hfar
        go_wp2_with fail
        go_roundw
        case rel => exact ⟨k + 1, _, by omega, by go_num, hO3, hY3, hB2⟩
        case measure => simp [intOf]; omega
      · obtain rfl : k = is.length := by omega
        go_wp2_with fail
        go_ret
        refine ⟨_, rfl, ⟨some ⟨w.heap.size, 0, none⟩, is.length, by simp, fun j T' hT' => ?_⟩, hB.out⟩
        rw [List.getElem?_map] at hT'
        obtain ⟨T, hT, rfl⟩ := Option.map_eq_some_iff.1 hT'
        have hj := (List.getElem?_eq_some_iff.1 hT).1
        obtain ⟨y0, y1, y2, a0, a1, a2, a3⟩ := hY.out j T hj hT
        exact ⟨w.heap.size, 0, y0, y1, y2, rfl, Nat.le_refl _, by rw [Nat.zero_add, hO.out.cellAt _ (by omega)]; exact a0, by rw [Nat.zero_add, hO.out.cellAt _ (by omega)]; exact a1, by rw [Nat.zero_add, hO.out.cellAt _ (by omega)]; exact a2, a3.imp (fun q _ hq => by omega)⟩
set_option maxHeartbeats 2000000 in
set_option maxRecDepth 100000 in
theorem listTrust_run (d : Nat) (C : Tree → Prop) (f : Tree → Tree) (hF : OneC 100 d C f) (P : Nat → Prop) (v : Value) (is : List Tree) (w : World) (hn : is.length ≤ 1000000) (h : ListT P d w v is) (hC : ∀ T ∈ is, C T) :
    Calls Try.prog 91 #[v, .func (.func 100) #[] #[]] w fun e w' => ∃ v', e = .returned v' ∧ ListT (fun b => w.heap.size ≤ b) d w' v' (is.map f) ∧ Below w.heap.size w w' := by
  obtain ⟨i0, hi, hz0, hz1, hz2⟩ := info_parts infoTrust
  obtain ⟨A, c, rfl, h1⟩ := h
  have HF := Lib.hid hF
  have H1 := Lib.hid h1
  have HC := Lib.hid hC
  clear hF h1 hC
  by_cases h0 : is.length = 0
  · have hl0 : ((is.length : Int) == 0) = true := by rw [h0]; rfl
    have hE := Lib.hid (List.eq_nil_of_length_eq_zero h0)
    clear h0
    go_enter Try.func91, Try.ntmps91
    go_wp2_with fail
    go_ret
    exact ⟨_, rfl, ⟨none, 0, by rw [hE.out]; rfl, fun k T hT => by rw [hE.out] at hT; simp at hT⟩, bref _⟩
  · have hl0 : ((is.length : Int) == 0) = false := by rw [beq_eq_false_iff_ne]; omega
    go_enter Try.func91, Try.ntmps91
    go_wp2_with (at_make; refine wpList_make_full _ rfl _ _ 39 rfl w.heap.size 41 i0 (.agg #[.int .i64 0, .slice none 0 0, .slice none 0 0]) 3 Try.underlying39 hi hz0 hz1 .i64 .i64 _ _ is.length rfl rfl rfl rfl (by rw [hz2]; omega) (by unfold maxLen; omega) (Nat.le_refl _) ?_; intro w1 hown hgrow)
    have hcs1 := hown.1
    have HB1 := Lib.hid (show Below w.heap.size w w1 from (bref w).grown hgrow (Nat.le_refl _) (fun j hj => by cases hj))
    have hgl : w.heap.size < w1.heap.size := (hown.lt w.heap.size rfl).2
    go_loopw [16] (fun t wr => ∃ (k : Nat) (cs : List Value), k ≤ is.length ∧ t = .int .i64 k ∧ Hid (wr.ownsRow w.heap.size 41 3 (.slice (some ⟨w.heap.size, 0, none⟩) is.length is.length) is.length cs) ∧
      Hid (∀ j T, j < k → is[j]? = some T → ∃ y0 y1 y2, cs[j * 3]? = some y0 ∧ cs[j * 3 + 1]? = some y1 ∧ cs[j * 3 + 2]? = some y2 ∧ TAt (fun b => w.heap.size < b) d wr y0 y1 y2 (f T)) ∧ Hid (Below w.heap.size w wr)) (fun t _ => is.length - (intOf t).toNat)
    case atStart => exact ⟨0, _, by omega, rfl, Lib.hid hown, Lib.hid (fun j T hj => by omega), HB1⟩
    case round =>
      clear hown hgrow hcs1 HB1 hgl
      obtain ⟨k, cs, hk, rfl, hO, hY, hB⟩ := hrel
      have hcl := hO.out.1
      have hgl := (hO.out.lt w.heap.size rfl).2
      by_cases hlt : k < is.length
      · obtain ⟨T, hT⟩ : ∃ T, is[k]? = some T := ⟨_, List.getElem?_eq_getElem hlt⟩
        obtain ⟨b, off, x0, x1, x2, rfl, hPb, c0, c1, c2, hTk⟩ := H1.out k T hT
        obtain ⟨t', A', n', ca, B', m', cb, rfl, rfl, rfl⟩ := hTk.form
        have hbl := cell_lt c0
        simp only at hbl
        have e0 : wr.cell? ⟨b, off + k * 3, none⟩ = some (.int .i64 t') := (hB.out.cell (p := ⟨b, off + k * 3, none⟩) hbl).trans c0
        have e1 : wr.cell? ⟨b, off + k * 3 + 1, none⟩ = some (.slice A' n' ca) := (hB.out.cell (p := ⟨b, off + k * 3 + 1, none⟩) hbl).trans c1
        have e2 : wr.cell? ⟨b, off + k * 3 + 2, none⟩ = some (.slice B' m' cb) := (hB.out.cell (p := ⟨b, off + k * 3 + 2, none⟩) hbl).trans c2
        have hTr := Lib.hid ((hTk.below hB.out).below (balloc (bref wr) (.cells #[.int .i64 t', .slice A' n' ca, .slice B' m' cb] 41)))
        have hCT := Lib.hid (HC.out T (List.mem_of_getElem? hT))
        have HT := Lib.hid hT
        have hO1 := Lib.hid (hO.out.alloc (.cells #[.int .i64 t', .slice A' n' ca, .slice B' m' cb] 41))
        have hB1 := Lib.hid (balloc hB.out (.cells #[.int .i64 t', .slice A' n' ca, .slice B' m' cb] 41))
        clear c0 c1 c2 hTk hT
        go_wp2_with fail
        refine (HF.out P T _ _ _ _ hTr.out hCT.out).mono ?_
        rintro e w2 ⟨z0, z1, z2, rfl, hz, hb2⟩
        obtain ⟨t2, A2, n2, ca2, B2, m2, cb2, rfl, rfl, rfl⟩ := hz.form
        have hO2 := hO1.out.kept (grown_below (r := none) hb2) (.inr (by simp [Value.ownBlock]))
        have f0 : w2.cell? ⟨w.heap.size, k * 3, none⟩ = cs[k * 3]? := hO2.cellAt (k * 3) (by omega)
        have f1 : w2.cell? ⟨w.heap.size, k * 3 + 1, none⟩ = cs[k * 3 + 1]? := hO2.cellAt (k * 3 + 1) (by omega)
        have f2 : w2.cell? ⟨w.heap.size, k * 3 + 2, none⟩ = cs[k * 3 + 2]? := hO2.cellAt (k * 3 + 2) (by omega)
        rw [List.getElem?_eq_getElem (by omega)] at f0 f1 f2
        have g0 := hO2.frozenAt (k * 3)
        have g1 := hO2.frozenAt (k * 3 + 1)
        have g2 := hO2.frozenAt (k * 3 + 2)
        generalize cs[k * 3]'(by omega) = u0 at f0
        generalize cs[k * 3 + 1]'(by omega) = u1 at f1
        generalize cs[k * 3 + 2]'(by omega) = u2 at f2
        have hO3 := Lib.hid ((((hO2.stored (k * 3) (.int .i64 t2)).1.stored (k * 3 + 1) (.slice A2 n2 ca2)).1.stored (k * 3 + 2) (.slice B2 m2 cb2)).1)
        have hB2 := Lib.hid (bset (bset (bset (bstep hB1.out hb2) (p := ⟨w.heap.size, k * 3, none⟩) (Nat.le_refl _) (.int .i64 t2)) (p := ⟨w.heap.size, k * 3 + 1, none⟩) (Nat.le_refl _) (.slice A2 n2 ca2)) (p := ⟨w.heap.size, k * 3 + 2, none⟩) (Nat.le_refl _) (.slice B2 m2 cb2))
        have hfar : ∀ q, q ≠ w.heap.size → (((w2.setCell ⟨w.heap.size, k * 3, none⟩ (.int .i64 t2)).setCell ⟨w.heap.size, k * 3 + 1, none⟩ (.slice A2 n2 ca2)).setCell ⟨w.heap.size, k * 3 + 2, none⟩ (.slice B2 m2 cb2)).heap[q]? = w2.heap[q]? := fun q hq =>
          (Below.heap_setCell _ _ _ _ (by simpa using hq)).trans ((Below.heap_setCell _ _ _ _ (by simpa using hq)).trans (Below.heap_setCell _ _ _ _ (by simpa using hq)))
        have hY3 : Hid (∀ j T, j < k + 1 → is[j]? = some T → ∃ y0 y1 y2, (((cs.set (k * 3) (.int .i64 t2)).set (k * 3 + 1) (.slice A2 n2 ca2)).set (k * 3 + 2) (.slice B2 m2 cb2))[j * 3]? = some y0 ∧ (((cs.set (k * 3) (.int .i64 t2)).set (k * 3 + 1) (.slice A2 n2 ca2)).set (k * 3 + 2) (.slice B2 m2 cb2))[j * 3 + 1]? = some y1 ∧ (((cs.set (k * 3) (.int .i64 t2)).set (k * 3 + 1) (.slice A2 n2 ca2)).set (k * 3 + 2) (.slice B2 m2 cb2))[j * 3 + 2]? = some y2 ∧
            TAt (fun b => w.heap.size < b) d (((w2.setCell ⟨w.heap.size, k * 3, none⟩ (.int .i64 t2)).setCell ⟨w.heap.size, k * 3 + 1, none⟩ (.slice A2 n2 ca2)).setCell ⟨w.heap.size, k * 3 + 2, none⟩ (.slice B2 m2 cb2)) y0 y1 y2 (f T)) := Lib.hid (by
          intro j T' hj hT'
          rcases Nat.lt_or_ge j k with hjk | hjk
          · obtain ⟨y0, y1, y2, a0, a1, a2, a3⟩ := hY.out j T' hjk hT'
            refine ⟨y0, y1, y2, ?_, ?_, ?_, ?_⟩
            · rw [List.getElem?_set_ne (by omega), List.getElem?_set_ne (by omega), List.getElem?_set_ne (by omega)]; exact a0
            · rw [List.getElem?_set_ne (by omega), List.getElem?_set_ne (by omega), List.getElem?_set_ne (by omega)]; exact a1
            · rw [List.getElem?_set_ne (by omega), List.getElem?_set_ne (by omega), List.getElem?_set_ne (by omega)]; exact a2
            · exact TAt.keep (fun q _ hq => hfar q (by omega)) (TAt.below (TAt.below a3 (balloc (bref wr) (.cells #[.int .i64 t', .slice A' n' ca, .slice B' m' cb] 41))) hb2)
          · obtain rfl : j = k := by omega
            have hTT : T' = T := by rw [HT.out] at hT'; exact (Option.some.inj hT').symm
            subst hTT
            refine ⟨_, _, _, ?_, ?_, ?_, TAt.both (fun q _ hq => hfar q (by simp at hq; omega)) (fun q _ hq => by simp at hq; omega) _ _ _ _ _ hz⟩
            · rw [List.getElem?_set_ne (by omega), List.getElem?_set_ne (by omega), List.getElem?_set_self (by omega)]
            · rw [List.getElem?_set_ne (by omega), List.getElem?_set_self (by simp; omega)]
            · rw [List.getElem?_set_self (by simp; omega)])
        clear hO2 hz hb2 hfar
        go_wp2_with fail
        go_roundw
        case rel => exact ⟨k + 1, _, by omega, by go_num, hO3, hY3, hB2⟩
        case measure => simp [intOf]; omega
      · obtain rfl : k = is.length := by omega
        go_wp2_with fail
        go_ret
        refine ⟨_, rfl, ⟨some ⟨w.heap.size, 0, none⟩, is.length, by simp, fun j T' hT' => ?_⟩, hB.out⟩
        rw [List.getElem?_map] at hT'
        obtain ⟨T, hT, rfl⟩ := Option.map_eq_some_iff.1 hT'
        have hj := (List.getElem?_eq_some_iff.1 hT).1
        obtain ⟨y0, y1, y2, a0, a1, a2, a3⟩ := hY.out j T hj hT
        exact ⟨w.heap.size, 0, y0, y1, y2, rfl, Nat.le_refl _, by rw [Nat.zero_add, hO.out.cellAt _ (by omega)]; exact a0, by rw [Nat.zero_add, hO.out.cellAt _ (by omega)]; exact a1, by rw [Nat.zero_add, hO.out.cellAt _ (by omega)]; exact a2, a3.imp (fun q _ hq => by omega)⟩
end Go.Proofs.Ytmgiojdipheokaa
