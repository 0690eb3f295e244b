/- The contracts of the reference's Blocks and of blocking.Check. -/
import Derived.Test.YtbbdmaakphoofaaCasc
namespace Go.Proofs.Ytbbdmaakphoofaa
set_option linter.unusedVariables false
set_option linter.unusedSimpArgs false
open Go.RowKit

theorem rb_fact (s k : Nat) (hs : s < 1024) (hk : k < 10) : bits .or .i64 (IntKind.i64.wrap (1023 - (s : Int))) (IntKind.i64.wrap (2 ^ k)) = ((1023 - offS s k : Nat) : Int) := by
  have all : ∀ s : Fin 1024, ∀ k : Fin 10, bits .or .i64 (IntKind.i64.wrap (1023 - (s.val : Int))) (IntKind.i64.wrap (2 ^ k.val)) = ((1023 - offS s.val k.val : Nat) : Int) := by decide +kernel
  exact all ⟨s, hs⟩ ⟨k, hk⟩
theorem blk_sat (d : Nat) (T : Tree) {o : Nat} (ho : o < 1024) : blkB d T (o : Int) = !satB d T ((1023 - o : Nat) : Int) := by
  unfold blkB satB
  rw [setB_iff.2 ⟨by omega, by omega⟩, setB_iff.2 ⟨by omega, by omega⟩, Bool.true_and, Bool.true_and, show ((1023 - o : Nat) : Int) = 1023 - (o : Int) by omega]

set_option maxRecDepth 100000 in
set_option maxHeartbeats 2000000 in
theorem rblocks_run (P : Nat → Prop) (d : Nat) (ms : List Mem) (v : Value) (k s : Nat) (w : World) (hl : ms.length ≤ 10) (hs : s < 1024) (hk : k < 10) (h : MemsAt P d w v ms) :
    Calls Try.prog 13 #[.agg #[v], .int .i64 (k : Int), .int .i64 (s : Int)] w fun e w' => e = .returned (.bool (blkM d ms s k)) ∧ Below w.heap.size w w' := by
  obtain ⟨A, c, rfl⟩ := h.slice
  have hb1 : Below w.heap.size w (w.alloc (.cells #[.slice A ms.length c] 27)) := balloc (bref w) _
  have k0 : (w.alloc (.cells #[.slice A ms.length c] 27)).heap[w.heap.size]? = some (.cells #[.slice A ms.length c] 27 (0, 0)) := alloc_at rfl
  have H := Lib.hid (h.below hb1)
  have HB := Lib.hid hb1
  have K0 := Lib.hid k0
  have hsv := Lib.hid (show setB (s : Int) = true from setB_iff.2 ⟨by omega, by omega⟩)
  have hdl := declS_lt ms ms.length hl
  clear h hb1 k0
  go_enter Try.func13, Try.ntmps13
  go_upto_region 1 with fail
  generalize w.alloc (.cells #[.slice A ms.length c] 27) = W1 at *
  generalize hg : w.heap.size = g at *
  have HG := Lib.hid hg
  clear hg
  have c0 : W1.cell? ⟨g, 0, none⟩ = some (.slice A ms.length c) := cell_of_row _ _ 0 _ _ (0, 0) K0.out
  have hgl := cell_lt c0
  have HBw := Lib.hid (show Below w.heap.size w W1 by rw [HG.out]; exact HB.out)
  go_wp2_with fail
  refine (rsetValid_run _ _).mono ?_
  rintro e w2 ⟨rfl, rfl⟩
  rw [hsv.out]
  go_wp2_with fail
  refine (rdeclared_run _ d ms _ _ hl H.out).mono ?_
  rintro e W2 ⟨rfl, hb2⟩
  have HB2 := Lib.hid hb2
  have d0 := (hb2.cell hgl).trans c0
  clear hb2 c0
  have HBM := Lib.hid (show blkM d ms s k = ((declS ms ms.length).testBit k && blkB d (trOf ms k) ((offS s k : Nat) : Int)) from rfl)
  have HDB := Lib.hid (fun (h : (declS ms ms.length).testBit k = true) => declS_bit h)
  generalize declS ms ms.length = D at *
  have hbit := hasB_bit hdl hk
  cases hb : D.testBit k
  · rw [hb] at hbit HBM
    go_wp2_with fail
    refine (rhas_run _ _ _).mono ?_
    rintro e w3 ⟨rfl, rfl⟩
    rw [hbit]
    go_wp2_with fail
    go_ret
    exact ⟨by rw [HBM.out]; rfl, bstep HBw.out HB2.out⟩
  · have hkm := HDB.out hb
    rw [hb] at hbit HBM
    obtain ⟨m, hm⟩ : ∃ m, ms[k]? = some m := ⟨_, List.getElem?_eq_getElem hkm⟩
    obtain ⟨bm, om, t, A1, n1, c1, A2, n2, c2, rfl, hP, hbl, e0, e1, e2, e3, hT⟩ := memBox (H.out.below HB2.out) hm
    have htr : trOf ms k = m.2 := by unfold trOf; rw [List.getD_eq_getElem?_getD, hm]; rfl
    rw [htr] at HBM
    obtain ⟨dec, T⟩ := m
    have HOFF := rb_fact s k hs hk
    have HBS := Lib.hid (blk_sat d T (offS_lt (k := k) hs))
    have hki : (k : Int) < (ms.length : Int) := by omega
    have hk0 : (0 : Int) ≤ (k : Int) := by omega
    have hk64 : ¬ (64 : Int) ≤ (k : Int) := by omega
    clear hm htr hb e0
    go_wp2_with fail
    refine (rhas_run _ _ _).mono ?_
    rintro e w3 ⟨rfl, rfl⟩
    rw [hbit]
    go_upto_region 3 with fail
    have hdr : Below W2.heap.size W2 W2.drew := ⟨rfl, rfl, rfl, Nat.le_refl _, fun _ _ => rfl⟩
    have hS := Lib.hid (show W2.drew.cell? ⟨g, 0, none⟩ = some (.slice (some ⟨bm, om, none⟩) ms.length c) ∧ W2.drew.cell? ⟨bm, om + k * 4 + 1, none⟩ = some (.int .i64 t) ∧ W2.drew.cell? ⟨bm, om + k * 4 + 2, none⟩ = some (.slice A1 n1 c1) ∧ W2.drew.cell? ⟨bm, om + k * 4 + 3, none⟩ = some (.slice A2 n2 c2) ∧ TAt P d W2.drew (.int .i64 t) (.slice A1 n1 c1) (.slice A2 n2 c2) T ∧ Below w.heap.size w W2.drew from
      ⟨d0, e1, e2, e3, hT.below hdr, bstep (bstep HBw.out HB2.out) hdr⟩)
    clear hT hdr
    go_region_held3 (fun W => W.cell? ⟨g, 0, none⟩ = some (.slice (some ⟨bm, om, none⟩) ms.length c) ∧ W.cell? ⟨bm, om + k * 4 + 1, none⟩ = some (.int .i64 t) ∧ W.cell? ⟨bm, om + k * 4 + 2, none⟩ = some (.slice A1 n1 c1) ∧ W.cell? ⟨bm, om + k * 4 + 3, none⟩ = some (.slice A2 n2 c2) ∧ TAt P d W (.int .i64 t) (.slice A1 n1 c1) (.slice A2 n2 c2) T ∧ Below w.heap.size w W) (first | exact hS.out | exact hSK | assumption)
      (first
        | (go_at_call 36; refine (rsat_run _ d T _ _ _ (1023 - offS s k) _ (by omega) (by first | exact hHeld.2.2.2.2.1 | exact hS.out.2.2.2.2.1)).mono ?_; rintro e WK ⟨rfl, hbK⟩; have hSK := (show WK.cell? ⟨g, 0, none⟩ = some (.slice (some ⟨bm, om, none⟩) ms.length c) ∧ WK.cell? ⟨bm, om + k * 4 + 1, none⟩ = some (.int .i64 t) ∧ WK.cell? ⟨bm, om + k * 4 + 2, none⟩ = some (.slice A1 n1 c1) ∧ WK.cell? ⟨bm, om + k * 4 + 3, none⟩ = some (.slice A2 n2 c2) ∧ TAt P d WK (.int .i64 t) (.slice A1 n1 c1) (.slice A2 n2 c2) T ∧ Below w.heap.size w WK from ⟨(hbK.cell (cell_lt hS.out.1)).trans hS.out.1, (hbK.cell (cell_lt hS.out.2.1)).trans hS.out.2.1, (hbK.cell (cell_lt hS.out.2.2.1)).trans hS.out.2.2.1, (hbK.cell (cell_lt hS.out.2.2.2.1)).trans hS.out.2.2.2.1, hS.out.2.2.2.2.1.below hbK, bstep hS.out.2.2.2.2.2 hbK⟩)))
    all_goals
      have HZ := Lib.hid hSK.2.2.2.2.2
      clear hSK
      go_wp2_with fail
      go_ret
      exact ⟨by rw [HBM.out, HBS.out]; rfl, HZ.out⟩

set_option maxRecDepth 100000 in
set_option maxHeartbeats 4000000 in
theorem bcheck_run (P Q : Nat → Prop) (d : Nat) (ms : List Mem) (v lv : Value) (l : List Int) (s r : Nat) (w : World) (hl : ms.length ≤ 10) (hs : s < 1024) (hll : l.length ≤ 1000000) (h : MemsAt P d w v ms) (hN : NodesAt Q w lv l) (hE : CasR d ms s l r) :
    Calls Try.prog 14 #[.agg #[v], .int .i64 (s : Int), lv] w fun e w' => (CClosed d ms r ∧ e = .returned (.tuple #[.int .i64 (r : Int), .int .i64 0]) ∨ (∃ k, k < ms.length ∧ r.testBit k = false ∧ blkM d ms r k = true) ∧ e = .returned (.tuple #[.int .i64 0, .int .i64 12])) ∧ Below w.heap.size w w' := by
  obtain ⟨A, c, rfl⟩ := h.slice
  obtain ⟨Al, cl, rfl, hNc⟩ := hN
  have hb1 : Below w.heap.size w (w.alloc (.cells #[.slice A ms.length c] 27)) := balloc (bref w) _
  have k0 : (w.alloc (.cells #[.slice A ms.length c] 27)).heap[w.heap.size]? = some (.cells #[.slice A ms.length c] 27 (0, 0)) := alloc_at rfl
  have H := Lib.hid (h.below hb1)
  have HNC := Lib.hid (fun k (hk : k < l.length) => by
    obtain ⟨b, off, e1, _, e3⟩ := hNc k hk
    exact (⟨b, off, e1, (hb1.cell (cell_lt e3)).trans e3⟩ : ∃ b off, Al = some ⟨b, off, none⟩ ∧ (w.alloc (.cells #[.slice A ms.length c] 27)).cell? ⟨b, off + k, none⟩ = some (.int .i64 (l.getD k 0))))
  have HB := Lib.hid hb1
  have K0 := Lib.hid k0
  have HE := Lib.hid hE
  have hsv := Lib.hid (show setB (s : Int) = true from setB_iff.2 ⟨by omega, by omega⟩)
  clear h hb1 k0 hNc hE
  go_enter Try.func14, Try.ntmps14
  go_upto_region 1 with fail
  generalize w.alloc (.cells #[.slice A ms.length c] 27) = W1 at *
  generalize hg : w.heap.size = g at *
  have HG := Lib.hid hg
  clear hg
  have c0 : W1.cell? ⟨g, 0, none⟩ = some (.slice A ms.length c) := cell_of_row _ _ 0 _ _ (0, 0) K0.out
  have hgl := cell_lt c0
  have HBw := Lib.hid (show Below w.heap.size w W1 by rw [HG.out]; exact HB.out)
  go_wp2_with fail
  refine (setValid_run _ _).mono ?_
  rintro e w2 ⟨rfl, rfl⟩
  rw [hsv.out]
  clear c0
  go_wp2_with fail
  go_loopw [1, 15] (fun a t W => ∃ (k rest : Nat), k ≤ l.length ∧ a = .int .i64 (rest : Int) ∧ t = .int .i64 k ∧ rest < 1024 ∧ Hid (CasR d ms rest (l.drop k) r) ∧ Hid (Below W1.heap.size W1 W)) (fun _ t _ => l.length - (intOf t).toNat)
  case atStart => exact ⟨0, s, by omega, rfl, rfl, hs, by simpa using HE, Lib.hid (bref _)⟩
  case round =>
    obtain ⟨k, rest, hk, rfl, rfl, hrl, hEl, hB⟩ := hrel
    have c1 : wr.cell? ⟨g, 0, none⟩ = some (.slice A ms.length c) := (hB.out.cell hgl).trans (cell_of_row _ _ 0 _ _ (0, 0) K0.out)
    by_cases hlt : k < l.length
    · obtain ⟨b, off, rfl, hc⟩ := HNC.out k hlt
      have hel := hEl.out
      rw [drop_cons hlt] at hel
      obtain ⟨kk, hx, hkm, hbit, hu, hel2⟩ := hel
      rw [hx] at hc
      have d1 := (hB.out.cell (cell_lt hc)).trans hc
      have HU1 := Lib.hid (show hasB (rest : Int) (kk : Int) = false by rw [hasB_bit hrl (by omega)]; exact hbit)
      have HU2 := Lib.hid hu
      have HOR := Lib.hid (shl_or rest kk (by omega) (by omega))
      have HEL2 := Lib.hid hel2
      have hrl2 : rest ||| 2 ^ kk < 1024 := Nat.or_lt_two_pow (n := 10) hrl (Nat.pow_lt_pow_right (by omega) (by omega))
      have hk0 : (0 : Int) ≤ (kk : Int) := by omega
      clear hc hx hu hel2 hbit
      go_wp2_with fail
      refine (has_run _ _ _).mono ?_
      rintro e w2 ⟨rfl, rfl⟩
      rw [HU1.out]
      go_wp2_with fail
      refine (blocks_run _ d ms _ kk rest _ hl hrl (by omega) (H.out.below hB.out)).mono ?_
      rintro e W4 ⟨rfl, hb4⟩
      rw [HU2.out]
      have HB4 := Lib.hid (bstep hB.out hb4)
      clear hb4 c1
      go_wp2_with fail
      rw [HOR.out]
      go_roundw
      case rel => exact ⟨k + 1, rest ||| 2 ^ kk, by omega, rfl, by go_num, hrl2, HEL2, HB4⟩
      case measure => simp [intOf]; omega
    · obtain rfl : k = l.length := by omega
      have hrr := hEl.out
      rw [List.drop_length] at hrr
      obtain rfl : r = rest := hrr
      go_wp2_with fail
      refine (following_run _ d ms _ r _ hl hrl (H.out.below hB.out)).mono ?_
      rintro e W5 ⟨K, rfl, hK, hb5⟩
      have HB5 := Lib.hid (bstep HBw.out (bstep hB.out hb5))
      clear hb5 c1
      rcases hK with ⟨k, rfl, hk, hbit, hu⟩ | ⟨rfl, hcl⟩
      · have hk0 : (0 : Int) ≤ (k : Int) := by omega
        have HU := Lib.hid (And.intro hbit hu)
        clear hu hbit
        go_wp2_with fail
        go_ret2
        exact ⟨.inr ⟨⟨k, hk, HU.out⟩, rfl⟩, HB5.out⟩
      · have HC := Lib.hid hcl
        clear hcl
        go_wp2_with fail
        go_ret2
        exact ⟨.inl ⟨HC.out, rfl⟩, HB5.out⟩
end Go.Proofs.Ytbbdmaakphoofaa
