/- The contract of quorums.Symmetric, for members that all have one trust. -/
import Derived.Test.YtoaekbhbbejgmaaParts
import Derived.Deep.RegionHeld3
namespace Go.Proofs.Ytoaekbhbbejgmaa
set_option linter.unusedVariables false
set_option linter.unusedSimpArgs false
open Go.RowKit

/-- What the drawn region of Symmetric reads. -/
def SymS (P : Nat → Prop) (w0 : World) (g b o j i bd od n c : Nat) (j0 t u : Int) (a1 a2 b1 b2 : Value) (T : Tree) (W : World) : Prop :=
  W.cell? ⟨g, 0, none⟩ = some (.slice (some ⟨b, o, none⟩) n c) ∧ W.cell? ⟨bd, od, none⟩ = some (.int .i64 j0) ∧ W.cell? ⟨b, o + j * 4 + 1, none⟩ = some (.int .i64 t) ∧ W.cell? ⟨b, o + j * 4 + 2, none⟩ = some a1 ∧ W.cell? ⟨b, o + j * 4 + 3, none⟩ = some a2 ∧
    W.cell? ⟨b, o + i * 4 + 1, none⟩ = some (.int .i64 u) ∧ W.cell? ⟨b, o + i * 4 + 2, none⟩ = some b1 ∧ W.cell? ⟨b, o + i * 4 + 3, none⟩ = some b2 ∧ TAt P 2 W (.int .i64 t) a1 a2 T ∧ TAt P 2 W (.int .i64 u) b1 b2 T ∧ Below w0.heap.size w0 W
theorem bdrewS (W : World) : Below W.heap.size W W.drew := ⟨rfl, rfl, rfl, Nat.le_refl _, fun _ _ => rfl⟩
theorem symB {P : Nat → Prop} {g b o j i bd od n c : Nat} {j0 t u : Int} {a1 a2 b1 b2 : Value} {T : Tree} {w0 W W' : World} (h : SymS P w0 g b o j i bd od n c j0 t u a1 a2 b1 b2 T W) (hb : Below W.heap.size W W') : SymS P w0 g b o j i bd od n c j0 t u a1 a2 b1 b2 T W' := by
  obtain ⟨h1, h2, h3, h4, h5, h6, h7, h8, h9, h10, h11⟩ := h
  exact ⟨(hb.cell (cell_lt h1)).trans h1, (hb.cell (cell_lt h2)).trans h2, (hb.cell (cell_lt h3)).trans h3, (hb.cell (cell_lt h4)).trans h4, (hb.cell (cell_lt h5)).trans h5, (hb.cell (cell_lt h6)).trans h6, (hb.cell (cell_lt h7)).trans h7, (hb.cell (cell_lt h8)).trans h8, h9.below hb, h10.below hb, bstep h11 hb⟩
theorem symT {P : Nat → Prop} {g b o j i bd od n c : Nat} {j0 t u : Int} {a1 a2 b1 b2 : Value} {T : Tree} {w0 W : World} (h : SymS P w0 g b o j i bd od n c j0 t u a1 a2 b1 b2 T W) : TAt P 2 W (.int .i64 t) a1 a2 T := h.2.2.2.2.2.2.2.2.1
theorem symU {P : Nat → Prop} {g b o j i bd od n c : Nat} {j0 t u : Int} {a1 a2 b1 b2 : Value} {T : Tree} {w0 W : World} (h : SymS P w0 g b o j i bd od n c j0 t u a1 a2 b1 b2 T W) : TAt P 2 W (.int .i64 u) b1 b2 T := h.2.2.2.2.2.2.2.2.2.1

set_option maxRecDepth 100000 in
set_option maxHeartbeats 4000000 in
theorem symm_run (P : Nat → Prop) (ms : List Mem) (T : Tree) (v : Value) (w : World) (hl : ms.length ≤ 10) (h : MemsAt P 2 w v ms) (hok : MemsOk ms.length ms) (hT : ∀ m ∈ ms, m.2 = T) :
    Calls Try.prog 20 #[.agg #[v]] w fun e w' => e = .returned (.tuple #[.bool true, .int .i64 0]) ∧ Below w.heap.size w w' := by
  obtain ⟨A, c, rfl⟩ := h.slice
  have hb1 : Below w.heap.size w (w.alloc (.cells #[.slice A ms.length c] 27)) := balloc (bref w) _
  have k0 : (w.alloc (.cells #[.slice A ms.length c] 27)).heap[w.heap.size]? = some (.cells #[.slice A ms.length c] 27 (0, 0)) := alloc_at rfl
  have hp := pow11 ms.length (by omega)
  have h10 : 2 ^ ms.length ≤ 2 ^ 10 := Nat.pow_le_pow_right (by omega) hl
  obtain ⟨N, hN⟩ : ∃ N, 2 ^ ms.length = N := ⟨_, rfl⟩
  rw [hN] at hp h10
  clear hN
  have hn0 : (0 : Int) ≤ (ms.length : Int) := by omega
  have hn64 : ¬ (64 : Int) ≤ (ms.length : Int) := by omega
  have H := Lib.hid (h.below hb1)
  have HB := Lib.hid hb1
  have K0 := Lib.hid k0
  have HOK := Lib.hid hok
  have HTT := Lib.hid hT
  have hdl := declS_lt ms ms.length hl
  have HDB := Lib.hid (fun k (hk : (declS ms ms.length).testBit k = true) => declS_bit hk)
  clear h hb1 k0 hok hT
  go_enter Try.func20, Try.ntmps20
  go_upto_region 1 with fail
  generalize w.alloc (.cells #[.slice A ms.length c] 27) = W1 at *
  generalize hg : w.heap.size = g at *
  have HG := Lib.hid hg
  clear hg
  have c0 : W1.cell? ⟨g, 0, none⟩ = some (.slice A ms.length c) := cell_of_row _ _ 0 _ _ (0, 0) K0.out
  have hgl := cell_lt c0
  go_wp2_with fail
  refine (cvalid_run P ms _ _ hl H.out HOK.out).mono ?_
  rintro e W2 ⟨rfl, hb2⟩
  have HB2 := Lib.hid hb2
  have d0 := (hb2.cell hgl).trans c0
  have HM2 := Lib.hid (H.out.below hb2)
  have hgl2 := cell_lt d0
  clear hb2 c0
  go_wp2_with fail
  refine (declared_run P 2 ms _ _ hl HM2.out).mono ?_
  rintro e W4 ⟨rfl, hb4⟩
  have HB4 := Lib.hid (bstep HB2.out hb4)
  have d1 := (hb4.cell hgl2).trans d0
  have hgl4 := cell_lt d1
  have HM4 := Lib.hid (HM2.out.below hb4)
  obtain ⟨D, hD⟩ : ∃ D, declS ms ms.length = D := ⟨_, rfl⟩
  rw [hD] at hdl HDB ⊢
  clear hb4 d0 hD HM2 HB2
  go_wp2_with fail
  refine (pnodes_run D _ hdl).mono ?_
  rintro e W5 ⟨vd, rfl, hd5, hb5⟩
  have HB5 := Lib.hid (bstep HB4.out hb5)
  have d2 := (hb5.cell hgl4).trans d1
  have hgl5 := cell_lt d2
  have HM5 := Lib.hid (HM4.out.below hb5)
  have hLl := nodL_len D 10
  have HLM := Lib.hid (fun x (hx : x ∈ nodL D 10) => (nodL_mem D 10 x).1 hx)
  obtain ⟨LD, hLD⟩ : ∃ LD, nodL D 10 = LD := ⟨_, rfl⟩
  rw [hLD] at hd5 hLl HLM
  obtain ⟨Ad, cd, hvd⟩ := hd5.slice
  subst hvd
  have HD5 := Lib.hid hd5
  clear hd5 hb5 hLD HB4 HM4 d1
  go_wp2_with fail
  rw [hp]
  go_loopw [21] (fun t W => ∃ k : Nat, k ≤ N ∧ t = .int .i64 k ∧ Hid (Below W5.heap.size W5 W)) (fun t _ => N - (intOf t).toNat)
  case atStart => exact ⟨0, by omega, rfl, Lib.hid (bref _)⟩
  case round =>
    obtain ⟨k, hk, rfl, hB⟩ := hrel
    by_cases hlt : k < N
    · obtain ⟨W6, hW6⟩ : ∃ x, x = wr := ⟨_, rfl⟩
      subst hW6
      go_wp2_with fail
      go_loopw [26] (fun t W => ∃ i : Nat, i ≤ LD.length ∧ t = .int .i64 i ∧ Hid (Below W5.heap.size W5 W)) (fun t _ => LD.length - (intOf t).toNat)
      case atStart => exact ⟨0, by omega, rfl, hB⟩
      case round =>
        clear hB
        obtain ⟨i, hi, rfl, hB⟩ := hrel
        by_cases hlti : i < LD.length
        · obtain ⟨Ad', cd', e1, e2⟩ := HD5.out.below hB.out
          cases e1
          obtain ⟨bd, od, rfl, _, hci⟩ := e2 i hlti
          obtain ⟨bd', od', e3, _, hc0⟩ := e2 0 (by omega)
          cases e3
          have hx0 : LD[i]? = some (LD.getD i 0) := by rw [List.getD_eq_getElem?_getD, List.getElem?_eq_getElem hlti]; rfl
          have hy0 : LD[0]? = some (LD.getD 0 0) := by rw [List.getD_eq_getElem?_getD, List.getElem?_eq_getElem (by omega)]; rfl
          obtain ⟨j, hj, hj10, hjb⟩ := HLM.out _ (List.mem_of_getElem? hx0)
          obtain ⟨j0, hj0, hj010, hj0b⟩ := HLM.out _ (List.mem_of_getElem? hy0)
          have hjm := HDB.out j hjb
          have hj0m := HDB.out j0 hj0b
          rw [hj] at hci
          rw [hj0] at hc0
          have hMw := HM5.out.below hB.out
          obtain ⟨m, hm⟩ : ∃ m, ms[j]? = some m := ⟨_, List.getElem?_eq_getElem hjm⟩
          obtain ⟨m0, hm0⟩ : ∃ m, ms[j0]? = some m := ⟨_, List.getElem?_eq_getElem hj0m⟩
          obtain ⟨b, o, t, A1, n1, c1, A2, n2, c2, rfl, _, _, f0, f1, f2, f3, hTm⟩ := memBox hMw hm
          obtain ⟨b', o', u, B1, m1, x1, B2, m2, x2, e4, _, _, h0, h1, h2, h3, hTm0⟩ := memBox hMw hm0
          cases e4
          rw [HTT.out m (List.mem_of_getElem? hm)] at hTm
          rw [HTT.out m0 (List.mem_of_getElem? hm0)] at hTm0
          have d3 := (hB.out.cell hgl5).trans d2
          have hSS : SymS P W5 g b o j j0 bd od ms.length c (j0 : Int) t u (.slice A1 n1 c1) (.slice A2 n2 c2) (.slice B1 m1 x1) (.slice B2 m2 x2) T wr := ⟨d3, by simpa using hc0, f1, f2, f3, h1, h2, h3, hTm, hTm0, hB.out⟩
          have hlj : (j : Int) < (ms.length : Int) := by omega
          have hlj0 : (j0 : Int) < (ms.length : Int) := by omega
          have HSS := Lib.hid hSS
          have hnl : 0 < LD.length := by omega
          have HCI := Lib.hid hci
          clear hSS hMw hm hm0 f0 f1 f2 f3 h0 h1 h2 h3 hTm hTm0 hx0 hy0 e2 hc0 d3 hj hj0 hjb hj0b
          go_upto_region 11 with fail
          have hS6 := Lib.hid (show SymS P W5 g b o j j0 bd od ms.length c (j0 : Int) t u (.slice A1 n1 c1) (.slice A2 n2 c2) (.slice B1 m1 x1) (.slice B2 m2 x2) T wr.drew from symB HSS.out (bdrewS _))
          unfold SymS at hS6
          obtain ⟨q, hq⟩ : ∃ q, satB 2 T (k : Int) = q := ⟨_, rfl⟩
          clear HSS
          go_region_held3 (fun W => W.cell? ⟨g, 0, none⟩ = some (.slice (some ⟨b, o, none⟩) ms.length c) ∧ W.cell? ⟨bd, od, none⟩ = some (.int .i64 (j0 : Int)) ∧ W.cell? ⟨b, o + j * 4 + 1, none⟩ = some (.int .i64 t) ∧ W.cell? ⟨b, o + j * 4 + 2, none⟩ = some (.slice A1 n1 c1) ∧ W.cell? ⟨b, o + j * 4 + 3, none⟩ = some (.slice A2 n2 c2) ∧ W.cell? ⟨b, o + j0 * 4 + 1, none⟩ = some (.int .i64 u) ∧ W.cell? ⟨b, o + j0 * 4 + 2, none⟩ = some (.slice B1 m1 x1) ∧ W.cell? ⟨b, o + j0 * 4 + 3, none⟩ = some (.slice B2 m2 x2) ∧ TAt P 2 W (.int .i64 t) (.slice A1 n1 c1) (.slice A2 n2 c2) T ∧ TAt P 2 W (.int .i64 u) (.slice B1 m1 x1) (.slice B2 m2 x2) T ∧ Below W5.heap.size W5 W) (first | (with_reducible exact hS6.out) | (with_reducible exact hSK) | go_keep)
            (first
              | (go_at_call 54; refine (satisfied_run P 2 T _ _ _ (k : Int) _ (by first | exact symT (by assumption) | exact symU (by assumption))).mono ?_; rintro e WK ⟨rfl, hbK⟩; rw [hq]; have hSK := symB (by assumption) hbK; unfold SymS at hSK; obtain ⟨p0, p1, p2, p3, p4, p5, p6, p7, _⟩ := id hSK))
          have HB9 := Lib.hid (show Below W5.heap.size W5 WK from hSK.2.2.2.2.2.2.2.2.2.2)
          clear hSK
          go_wp2_with fail
          go_roundw
          case rel => exact ⟨i + 1, by omega, by go_num, HB9⟩
          case measure => simp [intOf]; omega
        · obtain rfl : i = LD.length := by omega
          go_wp2_with fail
          go_roundw
          case rel => exact ⟨k + 1, by omega, by go_num, hB⟩
          case measure => simp [intOf]; omega
    · obtain rfl : k = N := by omega
      have HF := Lib.hid (show Below w.heap.size w wr from by
        have h1 := HB.out
        rw [← HG.out] at h1
        exact bstep (bstep h1 HB5.out) hB.out)
      go_wp2_with fail
      go_ret2
      exact ⟨rfl, HF.out⟩
end Go.Proofs.Ytoaekbhbbejgmaa
