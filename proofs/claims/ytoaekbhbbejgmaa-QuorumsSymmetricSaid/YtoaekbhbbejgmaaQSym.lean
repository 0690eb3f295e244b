/- The contracts of quorums.all, Count and Symmetric, for trusts of more levels. -/
import Derived.Test.YtoaekbhbbejgmaaSymm
import Derived.Test.YtoaekbhbbejgmaaCValidD
namespace Go.Proofs.Ytoaekbhbbejgmaa
set_option linter.unusedVariables false
set_option linter.unusedSimpArgs false
open Go.RowKit

set_option maxRecDepth 100000 in
set_option maxHeartbeats 4000000 in
theorem qall_runD (d : Nat) (hd : d + 1 ≤ 4) (P : Nat → Prop) (ms : List Mem) (v : Value) (w : World) (hl : ms.length ≤ 10) (h : MemsAt P (d + 1) w v ms) (hok : MemsOkD (d + 1) ms.length ms) :
    Calls Try.prog 41 #[.agg #[v]] w fun e w' => ∃ v', e = .returned (.tuple #[v', .int .i64 0]) ∧ w'.ownsRow w.heap.size 3 1 v' (allQ (d + 1) ms).length ((zs (allQ (d + 1) ms)).map (Value.int .i64)) ∧ Below w.heap.size w w' := by
  obtain ⟨i0, hin, hz0, hz1, hz2⟩ := info_parts infoInt
  obtain ⟨A, c, rfl⟩ := h.slice
  have hb1 : Below w.heap.size w (w.alloc (.cells #[.slice A ms.length c] 27)) := balloc (bref w) _
  have k0 : (w.alloc (.cells #[.slice A ms.length c] 27)).heap[w.heap.size]? = some (.cells #[.slice A ms.length c] 27 (0, 0)) := alloc_at rfl
  have hp := pow11 ms.length (by omega)
  have h10 : 2 ^ ms.length ≤ 2 ^ 10 := Nat.pow_le_pow_right (by omega) hl
  have HQA := Lib.hid (show allQ (d + 1) ms = (List.range (2 ^ ms.length)).filter (qB (d + 1) ms) from rfl)
  have HQI := Lib.hid (qB_iff (d + 1) ms)
  generalize qB (d + 1) ms = q at *
  generalize allQ (d + 1) ms = aq at *
  obtain ⟨N, hN⟩ : ∃ N, 2 ^ ms.length = N := ⟨_, rfl⟩
  rw [hN] at hp h10 HQA
  clear hN
  have hn0 : (0 : Int) ≤ (ms.length : Int) := by omega
  have hn64 : ¬ (64 : Int) ≤ (ms.length : Int) := by omega
  have H := Lib.hid (h.below hb1)
  have HB := Lib.hid hb1
  have K0 := Lib.hid k0
  have HOK := Lib.hid hok
  clear h hb1 k0 hok
  go_enter Try.func41, Try.ntmps41
  go_upto_region 1 with fail
  generalize w.alloc (.cells #[.slice A ms.length c] 27) = W1 at *
  generalize hg : w.heap.size = g at *
  have HG := Lib.hid hg
  clear hg
  have c0 : W1.cell? ⟨g, 0, none⟩ = some (.slice A ms.length c) := cell_of_row _ _ 0 _ _ (0, 0) K0.out
  have hgl := cell_lt c0
  go_wp2_with fail
  refine (cvalidD_run d hd P ms _ _ hl H.out HOK.out).mono ?_
  rintro e W2 ⟨rfl, hb2⟩
  have HB2 := Lib.hid hb2
  have d0 := (hb2.cell hgl).trans c0
  have HM2 := Lib.hid (H.out.below hb2)
  have hgl2 := cell_lt d0
  clear hb2 c0
  go_wp2_with fail
  rw [hp]
  go_loopw [5, 16] (fun v t W => ∃ (k : Nat) (l : List Nat) (vv : Value), k ≤ N ∧ v = vv ∧ t = .int .i64 k ∧ W.ownsRow W2.heap.size 3 1 vv l.length ((zs l).map (Value.int .i64)) ∧ Hid (l = (List.range k).filter q) ∧ Hid (Below W2.heap.size W2 W)) (fun _ t _ => N - (intOf t).toNat)
  case atStart => exact ⟨0, [], .slice none 0 0, by omega, rfl, rfl, World.ownsRow_nil _ _ _ _, Lib.hid rfl, Lib.hid (bref _)⟩
  case round =>
    obtain ⟨k, l, v, hk, hv, rfl, hown, hL, hB⟩ := hrel
    replace hv := hv.symm
    subst hv
    have hlen : l.length ≤ k := by rw [hL.out]; exact Nat.le_trans (List.length_filter_le _ _) (by simp)
    have HOWN := Lib.hid hown
    have hbs := hB.out.size
    by_cases hlt : k < N
    · have e0 := (hB.out.cell hgl2).trans d0
      have HMk := Lib.hid (HM2.out.below hB.out)
      clear hown
      go_wp2_with fail
      refine (quorum_run P (d + 1) ms _ k _ hl (by omega) HMk.out).mono ?_
      rintro e W5 ⟨b, rfl, hb, hb5⟩
      have HB5 := Lib.hid (bstep hB.out hb5)
      have HO5 := Lib.hid (own_keepG HOWN.out (fun j _ _ hl => hb5.block j hl))
      rcases (show b = false ∨ b = true by cases b <;> simp) with rfl | rfl
      · have hqk : q k = false := by
          cases hq : q k
          · rfl
          · exact absurd (hb.2 ((HQI.out k).1 hq)) (by simp)
        have HL2 := Lib.hid (show l = (List.range (k + 1)).filter q by rw [List.range_succ, List.filter_append, ← hL.out]; simp [hqk])
        clear hb hqk hb5
        go_wp2_with fail
        go_roundw
        case rel => exact ⟨k + 1, l, _, by omega, rfl, by go_num, HO5.out, HL2, HB5⟩
        case measure => simp [intOf]; omega
      · have hqk : q k = true := (HQI.out k).2 (hb.1 rfl)
        have HL2 := Lib.hid (show l ++ [k] = (List.range (k + 1)).filter q by rw [List.range_succ, List.filter_append, ← hL.out]; simp [hqk])
        have hown := HO5.out
        have hsz5 := hb5.size
        have hzl := zs_len l
        clear hb hqk hb5
        go_wp2_with (at_builtin; refine wpList_append_own _ rfl _ _ 22 rfl W2.heap.size 3 i0 (.int .i64 0) 1 8 Try.underlying22 hin hz0 hz1 hz2 rfl (by decide) _ _ _ rfl (hown.alloc _) ⟨W5.heap.size, 0, none⟩ 1 1 [.int .i64 (k : Int)] rfl rfl (cell_one_new _ _ _) (fun u hu => by simp at hu; subst hu; rfl) (by unfold maxLen; omega) (by omega) (by simp; omega) ?_; intro v' w1 hown' hgrow hnil)
        have HO := Lib.hid (own_snocZ hown')
        have HB6 := Lib.hid (Below.grown (balloc HB5.out (.cells #[.int .i64 (k : Int)] 3)) hgrow (by simp; omega) (fun j hj => (hown.lt j hj).1))
        clear hown' hgrow hnil hown
        go_roundw
        case rel => exact ⟨k + 1, l ++ [k], _, by omega, rfl, by go_num, HO.out, HL2, HB6⟩
        case measure => simp [intOf]; omega
    · obtain rfl : k = N := by omega
      have hla : l = aq := by rw [hL.out, HQA.out]
      subst hla
      have hg2 : g ≤ W2.heap.size := by omega
      have HR := Lib.hid (show wr.ownsRow g 3 1 v l.length ((zs l).map (Value.int .i64)) ∧ Below g w wr from by
        refine ⟨?_, ?_⟩
        · obtain ⟨h1, h2⟩ := hown
          refine ⟨h1, ?_⟩
          rcases h2 with h2 | ⟨gg, cap, cur, e1, e2, e3⟩
          · exact .inl h2
          · exact .inr ⟨gg, cap, cur, e1, Nat.le_trans hg2 e2, e3⟩
        · have h0 := HB.out
          rw [← HG.out] at h0
          have h1 := bstep (bstep h0 HB2.out) hB.out
          rwa [HG.out] at h1)
      obtain ⟨Ar, cr, hvr⟩ := own_slice hown
      subst hvr
      clear hown HOWN
      go_wp2_with fail
      go_ret2
      exact ⟨_, rfl, by rw [HG.out]; exact HR.out⟩

set_option maxHeartbeats 2000000 in
theorem qcount_runD (d : Nat) (hd : d + 1 ≤ 4) (P : Nat → Prop) (ms : List Mem) (v : Value) (w : World) (hl : ms.length ≤ 10) (h : MemsAt P (d + 1) w v ms) (hok : MemsOkD (d + 1) ms.length ms) :
    Calls Try.prog 21 #[.agg #[v]] w fun e w' => e = .returned (.tuple #[.int .i64 ((allQ (d + 1) ms).length : Nat), .int .i64 0]) ∧ Below w.heap.size w w' := by
  obtain ⟨A, c, rfl⟩ := h.slice
  have hb1 : Below w.heap.size w (w.alloc (.cells #[.slice A ms.length c] 27)) := balloc (bref w) _
  have k0 : (w.alloc (.cells #[.slice A ms.length c] 27)).heap[w.heap.size]? = some (.cells #[.slice A ms.length c] 27 (0, 0)) := alloc_at rfl
  have H := Lib.hid (h.below hb1)
  have HB := Lib.hid hb1
  have K0 := Lib.hid k0
  have HQR := Lib.hid (fun W (hm : MemsAt P (d + 1) W (.slice A ms.length c) ms) => qall_runD d hd P ms _ W hl hm hok)
  clear h hb1 k0 hok
  generalize allQ (d + 1) ms = aq at *
  go_enter Try.func21, Try.ntmps21
  go_upto_region 1 with fail
  generalize w.alloc (.cells #[.slice A ms.length c] 27) = W1 at *
  have c0 : W1.cell? ⟨w.heap.size, 0, none⟩ = some (.slice A ms.length c) := cell_of_row _ _ 0 _ _ (0, 0) K0.out
  go_wp2_with fail
  refine (HQR.out _ H.out).mono ?_
  rintro e W2 ⟨v2, rfl, ho2, hb2⟩
  have HB2 := Lib.hid (bstep HB.out hb2)
  obtain ⟨A2, c2, hv2⟩ := own_slice ho2
  subst hv2
  clear ho2 hb2 c0
  go_wp2_with fail
  go_ret2
  exact ⟨rfl, HB2.out⟩

/-- What the drawn region of Symmetric reads. -/
def SymE (d : Nat) (P : Nat → Prop) (w0 : World) (g b o j i bd od n c : Nat) (j0 t u : Int) (a1 a2 b1 b2 : Value) (T : Tree) (W : World) : Prop :=
  W.cell? ⟨g, 0, none⟩ = some (.slice (some ⟨b, o, none⟩) n c) ∧ W.cell? ⟨bd, od, none⟩ = some (.int .i64 j0) ∧ W.cell? ⟨b, o + j * 4 + 1, none⟩ = some (.int .i64 t) ∧ W.cell? ⟨b, o + j * 4 + 2, none⟩ = some a1 ∧ W.cell? ⟨b, o + j * 4 + 3, none⟩ = some a2 ∧
    W.cell? ⟨b, o + i * 4 + 1, none⟩ = some (.int .i64 u) ∧ W.cell? ⟨b, o + i * 4 + 2, none⟩ = some b1 ∧ W.cell? ⟨b, o + i * 4 + 3, none⟩ = some b2 ∧ TAt P (d + 1) W (.int .i64 t) a1 a2 T ∧ TAt P (d + 1) W (.int .i64 u) b1 b2 T ∧ Below w0.heap.size w0 W
theorem bdrewE (W : World) : Below W.heap.size W W.drew := ⟨rfl, rfl, rfl, Nat.le_refl _, fun _ _ => rfl⟩
theorem symEB {d : Nat} {P : Nat → Prop} {g b o j i bd od n c : Nat} {j0 t u : Int} {a1 a2 b1 b2 : Value} {T : Tree} {w0 W W' : World} (h : SymE d P w0 g b o j i bd od n c j0 t u a1 a2 b1 b2 T W) (hb : Below W.heap.size W W') : SymE d P w0 g b o j i bd od n c j0 t u a1 a2 b1 b2 T W' := by
  obtain ⟨h1, h2, h3, h4, h5, h6, h7, h8, h9, h10, h11⟩ := h
  exact ⟨(hb.cell (cell_lt h1)).trans h1, (hb.cell (cell_lt h2)).trans h2, (hb.cell (cell_lt h3)).trans h3, (hb.cell (cell_lt h4)).trans h4, (hb.cell (cell_lt h5)).trans h5, (hb.cell (cell_lt h6)).trans h6, (hb.cell (cell_lt h7)).trans h7, (hb.cell (cell_lt h8)).trans h8, h9.below hb, h10.below hb, bstep h11 hb⟩
theorem symET {d : Nat} {P : Nat → Prop} {g b o j i bd od n c : Nat} {j0 t u : Int} {a1 a2 b1 b2 : Value} {T : Tree} {w0 W : World} (h : SymE d P w0 g b o j i bd od n c j0 t u a1 a2 b1 b2 T W) : TAt P (d + 1) W (.int .i64 t) a1 a2 T := h.2.2.2.2.2.2.2.2.1
theorem symEU {d : Nat} {P : Nat → Prop} {g b o j i bd od n c : Nat} {j0 t u : Int} {a1 a2 b1 b2 : Value} {T : Tree} {w0 W : World} (h : SymE d P w0 g b o j i bd od n c j0 t u a1 a2 b1 b2 T W) : TAt P (d + 1) W (.int .i64 u) b1 b2 T := h.2.2.2.2.2.2.2.2.2.1

set_option maxRecDepth 100000 in
set_option maxHeartbeats 4000000 in
theorem symm_runD (d : Nat) (hd : d + 1 ≤ 4) (P : Nat → Prop) (ms : List Mem) (T : Tree) (v : Value) (w : World) (hl : ms.length ≤ 10) (h : MemsAt P (d + 1) w v ms) (hok : MemsOkD (d + 1) ms.length ms) (hT : ∀ m ∈ ms, m.2 = T) :
    Calls Try.prog 20 #[.agg #[v]] w fun e w' => e = .returned (.tuple #[.bool true, .int .i64 0]) ∧ Below w.heap.size w w' := by
  obtain ⟨A, c, rfl⟩ := h.slice
  have hb1 : Below w.heap.size w (w.alloc (.cells #[.slice A ms.length c] 27)) := balloc (bref w) _
  have k0 : (w.alloc (.cells #[.slice A ms.length c] 27)).heap[w.heap.size]? = some (.cells #[.slice A ms.length c] 27 (0, 0)) := alloc_at rfl
  have hp := pow11 ms.length (by omega)
  have h10 : 2 ^ ms.length ≤ 2 ^ 10 := Nat.pow_le_pow_right (by omega) hl
  obtain ⟨N, hN⟩ : ∃ N, 2 ^ ms.length = N := ⟨_, rfl⟩
  rw [hN] at hp h10
  clear hN
  have hn0 : (0 : Int) ≤ (ms.length : Int) := by omega
  have hn64 : ¬ (64 : Int) ≤ (ms.length : Int) := by omega
  have H := Lib.hid (h.below hb1)
  have HB := Lib.hid hb1
  have K0 := Lib.hid k0
  have HOK := Lib.hid hok
  have HTT := Lib.hid hT
  have hdl := declS_lt ms ms.length hl
  have HDB := Lib.hid (fun k (hk : (declS ms ms.length).testBit k = true) => declS_bit hk)
  clear h hb1 k0 hok hT
  go_enter Try.func20, Try.ntmps20
  go_upto_region 1 with fail
  generalize w.alloc (.cells #[.slice A ms.length c] 27) = W1 at *
  generalize hg : w.heap.size = g at *
  have HG := Lib.hid hg
  clear hg
  have c0 : W1.cell? ⟨g, 0, none⟩ = some (.slice A ms.length c) := cell_of_row _ _ 0 _ _ (0, 0) K0.out
  have hgl := cell_lt c0
  go_wp2_with fail
  refine (cvalidD_run d hd P ms _ _ hl H.out HOK.out).mono ?_
  rintro e W2 ⟨rfl, hb2⟩
  have HB2 := Lib.hid hb2
  have d0 := (hb2.cell hgl).trans c0
  have HM2 := Lib.hid (H.out.below hb2)
  have hgl2 := cell_lt d0
  clear hb2 c0
  go_wp2_with fail
  refine (declared_run P (d + 1) ms _ _ hl HM2.out).mono ?_
  rintro e W4 ⟨rfl, hb4⟩
  have HB4 := Lib.hid (bstep HB2.out hb4)
  have d1 := (hb4.cell hgl2).trans d0
  have hgl4 := cell_lt d1
  have HM4 := Lib.hid (HM2.out.below hb4)
  obtain ⟨D, hD⟩ : ∃ D, declS ms ms.length = D := ⟨_, rfl⟩
  rw [hD] at hdl HDB ⊢
  clear hb4 d0 hD HM2 HB2
  go_wp2_with fail
  refine (pnodes_run D _ hdl).mono ?_
  rintro e W5 ⟨vd, rfl, hd5, hb5⟩
  have HB5 := Lib.hid (bstep HB4.out hb5)
  have d2 := (hb5.cell hgl4).trans d1
  have hgl5 := cell_lt d2
  have HM5 := Lib.hid (HM4.out.below hb5)
  have hLl := nodL_len D 10
  have HLM := Lib.hid (fun x (hx : x ∈ nodL D 10) => (nodL_mem D 10 x).1 hx)
  obtain ⟨LD, hLD⟩ : ∃ LD, nodL D 10 = LD := ⟨_, rfl⟩
  rw [hLD] at hd5 hLl HLM
  obtain ⟨Ad, cd, hvd⟩ := hd5.slice
  subst hvd
  have HD5 := Lib.hid hd5
  clear hd5 hb5 hLD HB4 HM4 d1
  go_wp2_with fail
  rw [hp]
  go_loopw [21] (fun t W => ∃ k : Nat, k ≤ N ∧ t = .int .i64 k ∧ Hid (Below W5.heap.size W5 W)) (fun t _ => N - (intOf t).toNat)
  case atStart => exact ⟨0, by omega, rfl, Lib.hid (bref _)⟩
  case round =>
    obtain ⟨k, hk, rfl, hB⟩ := hrel
    by_cases hlt : k < N
    · obtain ⟨W6, hW6⟩ : ∃ x, x = wr := ⟨_, rfl⟩
      subst hW6
      go_wp2_with fail
      go_loopw [26] (fun t W => ∃ i : Nat, i ≤ LD.length ∧ t = .int .i64 i ∧ Hid (Below W5.heap.size W5 W)) (fun t _ => LD.length - (intOf t).toNat)
      case atStart => exact ⟨0, by omega, rfl, hB⟩
      case round =>
        clear hB
        obtain ⟨i, hi, rfl, hB⟩ := hrel
        by_cases hlti : i < LD.length
        · obtain ⟨Ad', cd', e1, e2⟩ := HD5.out.below hB.out
          cases e1
          obtain ⟨bd, od, rfl, _, hci⟩ := e2 i hlti
          obtain ⟨bd', od', e3, _, hc0⟩ := e2 0 (by omega)
          cases e3
          have hx0 : LD[i]? = some (LD.getD i 0) := by rw [List.getD_eq_getElem?_getD, List.getElem?_eq_getElem hlti]; rfl
          have hy0 : LD[0]? = some (LD.getD 0 0) := by rw [List.getD_eq_getElem?_getD, List.getElem?_eq_getElem (by omega)]; rfl
          obtain ⟨j, hj, hj10, hjb⟩ := HLM.out _ (List.mem_of_getElem? hx0)
          obtain ⟨j0, hj0, hj010, hj0b⟩ := HLM.out _ (List.mem_of_getElem? hy0)
          have hjm := HDB.out j hjb
          have hj0m := HDB.out j0 hj0b
          rw [hj] at hci
          rw [hj0] at hc0
          have hMw := HM5.out.below hB.out
          obtain ⟨m, hm⟩ : ∃ m, ms[j]? = some m := ⟨_, List.getElem?_eq_getElem hjm⟩
          obtain ⟨m0, hm0⟩ : ∃ m, ms[j0]? = some m := ⟨_, List.getElem?_eq_getElem hj0m⟩
          obtain ⟨b, o, t, A1, n1, c1, A2, n2, c2, rfl, _, _, f0, f1, f2, f3, hTm⟩ := memBox hMw hm
          obtain ⟨b', o', u, B1, m1, x1, B2, m2, x2, e4, _, _, h0, h1, h2, h3, hTm0⟩ := memBox hMw hm0
          cases e4
          rw [HTT.out m (List.mem_of_getElem? hm)] at hTm
          rw [HTT.out m0 (List.mem_of_getElem? hm0)] at hTm0
          have d3 := (hB.out.cell hgl5).trans d2
          have hSS : SymE d P W5 g b o j j0 bd od ms.length c (j0 : Int) t u (.slice A1 n1 c1) (.slice A2 n2 c2) (.slice B1 m1 x1) (.slice B2 m2 x2) T wr := ⟨d3, by simpa using hc0, f1, f2, f3, h1, h2, h3, hTm, hTm0, hB.out⟩
          have hlj : (j : Int) < (ms.length : Int) := by omega
          have hlj0 : (j0 : Int) < (ms.length : Int) := by omega
          have HSS := Lib.hid hSS
          have hnl : 0 < LD.length := by omega
          have HCI := Lib.hid hci
          clear hSS hMw hm hm0 f0 f1 f2 f3 h0 h1 h2 h3 hTm hTm0 hx0 hy0 e2 hc0 d3 hj hj0 hjb hj0b
          go_upto_region 11 with fail
          have hS6 := Lib.hid (show SymE d P W5 g b o j j0 bd od ms.length c (j0 : Int) t u (.slice A1 n1 c1) (.slice A2 n2 c2) (.slice B1 m1 x1) (.slice B2 m2 x2) T wr.drew from symEB HSS.out (bdrewE _))
          unfold SymE at hS6
          obtain ⟨q, hq⟩ : ∃ q, satB (d + 1) T (k : Int) = q := ⟨_, rfl⟩
          clear HSS
          go_region_held3 (fun W => W.cell? ⟨g, 0, none⟩ = some (.slice (some ⟨b, o, none⟩) ms.length c) ∧ W.cell? ⟨bd, od, none⟩ = some (.int .i64 (j0 : Int)) ∧ W.cell? ⟨b, o + j * 4 + 1, none⟩ = some (.int .i64 t) ∧ W.cell? ⟨b, o + j * 4 + 2, none⟩ = some (.slice A1 n1 c1) ∧ W.cell? ⟨b, o + j * 4 + 3, none⟩ = some (.slice A2 n2 c2) ∧ W.cell? ⟨b, o + j0 * 4 + 1, none⟩ = some (.int .i64 u) ∧ W.cell? ⟨b, o + j0 * 4 + 2, none⟩ = some (.slice B1 m1 x1) ∧ W.cell? ⟨b, o + j0 * 4 + 3, none⟩ = some (.slice B2 m2 x2) ∧ TAt P (d + 1) W (.int .i64 t) (.slice A1 n1 c1) (.slice A2 n2 c2) T ∧ TAt P (d + 1) W (.int .i64 u) (.slice B1 m1 x1) (.slice B2 m2 x2) T ∧ Below W5.heap.size W5 W) (first | (with_reducible exact hS6.out) | (with_reducible exact hSK) | go_keep)
            (first
              | (go_at_call 54; refine (satisfied_run P (d + 1) T _ _ _ (k : Int) _ (by first | exact symET (by assumption) | exact symEU (by assumption))).mono ?_; rintro e WK ⟨rfl, hbK⟩; rw [hq]; have hSK := symEB (by assumption) hbK; unfold SymE at hSK; obtain ⟨p0, p1, p2, p3, p4, p5, p6, p7, _⟩ := id hSK))
          have HB9 := Lib.hid (show Below W5.heap.size W5 WK from hSK.2.2.2.2.2.2.2.2.2.2)
          clear hSK
          go_wp2_with fail
          go_roundw
          case rel => exact ⟨i + 1, by omega, by go_num, HB9⟩
          case measure => simp [intOf]; omega
        · obtain rfl : i = LD.length := by omega
          go_wp2_with fail
          go_roundw
          case rel => exact ⟨k + 1, by omega, by go_num, hB⟩
          case measure => simp [intOf]; omega
    · obtain rfl : k = N := by omega
      have HF := Lib.hid (show Below w.heap.size w wr from by
        have h1 := HB.out
        rw [← HG.out] at h1
        exact bstep (bstep h1 HB5.out) hB.out)
      go_wp2_with fail
      go_ret2
      exact ⟨rfl, HF.out⟩
end Go.Proofs.Ytoaekbhbbejgmaa
