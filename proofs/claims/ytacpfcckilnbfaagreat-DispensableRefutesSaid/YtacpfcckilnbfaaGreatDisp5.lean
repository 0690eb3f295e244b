/- Contracts of the reference's dispensable sets. -/
import Derived.Test.YtacpfcckilnbfaaGreatB6
namespace Go.Proofs.YtacpfcckilnbfaaGreat
set_option linter.unusedVariables false
set_option linter.unusedSimpArgs false
open Go.RowKit

set_option maxRecDepth 100000 in
set_option maxHeartbeats 400000 in
theorem rdmembers_run (A : Option Addr) (n c : Nat) (hn : n ≤ 10) (w : World) : Calls Tryz.prog 70 #[.agg #[.slice A n c]] w fun e w' => e = .returned (.int .i64 ((2 ^ n - 1 : Nat) : Int)) ∧ Below w.heap.size w w' := by
  have hp := pow11 n (by omega)
  have hp1 : 1 ≤ 2 ^ n := Nat.one_le_pow _ _ (by omega)
  have hp2 : 2 ^ n ≤ 2 ^ 10 := Nat.pow_le_pow_right (by omega) hn
  obtain ⟨N, hN⟩ : ∃ N, 2 ^ n = N := ⟨_, rfl⟩
  rw [hN] at hp hp1 hp2 ⊢
  clear hN
  have hw1 : wrap64 ((N : Int) - 1) = (N : Int) - 1 := by unfold wrap64; omega
  have hn64 : (n : Int) < 64 := by omega
  have HE := Lib.hid (show ((N - 1 : Nat) : Int) = (N : Int) - 1 by omega)
  go_enter Tryz.func70, Tryz.ntmps70
  go_wp2_with fail
  go_ret
  exact ⟨by rw [HE.out]; rfl, balloc (bref _) _⟩

set_option maxRecDepth 100000 in
set_option maxHeartbeats 2000000 in
theorem rdset_run (P : Nat → Prop) (ms : List Mem) (v : Value) (s : Nat) (w : World) (hl : ms.length ≤ 10) (hs : s < 2 ^ ms.length) (h : MemsAt P 3 w v ms) (hok : D3.MemsOk ms.length ms) :
    Calls Tryz.prog 71 #[.agg #[v], .int .i64 (s : Int)] w fun e w' => e = .returned (.int .i64 0) ∧ Below w.heap.size w w' := by
  obtain ⟨A, c, rfl⟩ := h.slice
  have hb1 : Below w.heap.size w (w.alloc (.cells #[.slice A ms.length c] 27)) := balloc (bref w) _
  have k0 : (w.alloc (.cells #[.slice A ms.length c] 27)).heap[w.heap.size]? = some (.cells #[.slice A ms.length c] 27 (0, 0)) := alloc_at rfl
  have hp2 : 2 ^ ms.length ≤ 2 ^ 10 := Nat.pow_le_pow_right (by omega) hl
  have hs10 : s < 1024 := by omega
  have HMR := Lib.hid (fun W => rdmembers_run A ms.length c hl W)
  obtain ⟨M, hM⟩ : ∃ M, 2 ^ ms.length - 1 = M := ⟨_, rfl⟩
  have hsM : ¬ (M : Int) < (s : Int) := by omega
  rw [hM] at HMR
  clear hM
  have hs0 : ¬ (s : Int) < 0 := by omega
  have H := Lib.hid (h.below hb1)
  have HB := Lib.hid hb1
  have K0 := Lib.hid k0
  have HOK := Lib.hid hok
  have HS := Lib.hid hs
  clear h hb1 k0 hp2 hs hok
  go_enter Tryz.func71, Tryz.ntmps71
  go_upto_region 1 with fail
  generalize w.alloc (.cells #[.slice A ms.length c] 27) = W1 at *
  generalize hg : w.heap.size = g at *
  have HG := Lib.hid hg
  clear hg
  have c0 : W1.cell? ⟨g, 0, none⟩ = some (.slice A ms.length c) := cell_of_row _ _ 0 _ _ (0, 0) K0.out
  have HBw := Lib.hid (show Below w.heap.size w W1 by rw [HG.out]; exact HB.out)
  go_wp2_with fail
  refine (HMR.out _).mono ?_
  rintro e W2x ⟨rfl, hbx⟩
  have c1 := (hbx.cell (cell_lt c0)).trans c0
  have HB1 := Lib.hid (bstep HBw.out hbx)
  have H1 := Lib.hid (H.out.below hbx)
  clear hbx c0
  go_wp2_with fail
  go_ret
  exact ⟨rfl, HB1.out⟩
set_option maxRecDepth 100000 in
set_option maxHeartbeats 2000000 in
theorem rdints_run (P : Nat → Prop) (ms : List Mem) (v : Value) (s : Nat) (w : World) (hl : ms.length ≤ 10) (hs : s < 2 ^ ms.length) (h : MemsAt P 3 w v ms) (hok : D3.MemsOk ms.length ms) :
    Calls Tryz.prog 32 #[.agg #[v], .int .i64 (s : Int)] w fun e w' => (∃ x : Bool, e = .returned (.tuple #[.bool x, .int .i64 0]) ∧ (x = true ↔ InT (D3.delM s ms))) ∧ Below w.heap.size w w' := by
  obtain ⟨A, c, rfl⟩ := h.slice
  have hb1 : Below w.heap.size w (w.alloc (.cells #[.slice A ms.length c] 27)) := balloc (bref w) _
  have k0 : (w.alloc (.cells #[.slice A ms.length c] 27)).heap[w.heap.size]? = some (.cells #[.slice A ms.length c] 27 (0, 0)) := alloc_at rfl
  have hp2 : 2 ^ ms.length ≤ 2 ^ 10 := Nat.pow_le_pow_right (by omega) hl
  have hs10 : s < 1024 := by omega
  have H := Lib.hid (h.below hb1)
  have HB := Lib.hid hb1
  have K0 := Lib.hid k0
  have HOK := Lib.hid hok
  have HS := Lib.hid hs
  clear h hb1 k0 hp2 hs hok
  go_enter Tryz.func32, Tryz.ntmps32
  go_upto_region 1 with fail
  generalize w.alloc (.cells #[.slice A ms.length c] 27) = W1 at *
  generalize hg : w.heap.size = g at *
  have HG := Lib.hid hg
  clear hg
  have c0 : W1.cell? ⟨g, 0, none⟩ = some (.slice A ms.length c) := cell_of_row _ _ 0 _ _ (0, 0) K0.out
  have HBw := Lib.hid (show Below w.heap.size w W1 by rw [HG.out]; exact HB.out)
  go_wp2_with fail
  refine (D3.rcvalid_run P ms _ _ hl H.out HOK.out).mono ?_
  rintro e W2x ⟨rfl, hbx⟩
  have c1 := (hbx.cell (cell_lt c0)).trans c0
  have HB1 := Lib.hid (bstep HBw.out hbx)
  have H1 := Lib.hid (H.out.below hbx)
  clear hbx c0
  go_wp2_with fail
  refine (rdset_run P ms _ s _ hl HS.out H1.out HOK.out).mono ?_
  rintro e W3x ⟨rfl, hbx⟩
  have c2 := (hbx.cell (cell_lt c1)).trans c1
  have HB2 := Lib.hid (bstep HB1.out hbx)
  have H2 := Lib.hid (H1.out.below hbx)
  clear hbx c1
  go_wp2_with fail
  refine (D3.rdelete_run P ms _ s _ hl hs10 H2.out HOK.out).mono ?_
  rintro e Wd ⟨vd, rfl, hmd, hbd⟩
  have HMD := Lib.hid hmd
  have HBD := Lib.hid (bstep HB2.out hbd)
  clear hbd hmd c2
  go_wp2_with fail
  refine (D3.rholds_run _ (D3.delM s ms) _ _ (by rw [D3.delM_len]; exact hl) HMD.out (D3.delM_ok HOK.out)).mono ?_
  rintro e We ⟨⟨x, rfl, hx⟩, hbe⟩
  have HX := Lib.hid (show x = true ↔ InT (D3.delM s ms) from hx)
  have HBE := Lib.hid (bstep HBD.out hbe)
  clear hbe hx
  go_wp2_with fail
  go_ret2
  exact ⟨⟨x, rfl, HX.out⟩, HBE.out⟩
set_option maxRecDepth 100000 in
set_option maxHeartbeats 2000000 in
theorem rdavail_run (P : Nat → Prop) (ms : List Mem) (v : Value) (s : Nat) (w : World) (hl : ms.length ≤ 10) (hs : s < 2 ^ ms.length) (h : MemsAt P 3 w v ms) (hok : D3.MemsOk ms.length ms) :
    Calls Tryz.prog 98 #[.agg #[v], .int .i64 (s : Int)] w fun e w' => (∃ x : Bool, e = .returned (.tuple #[.bool x, .int .i64 0]) ∧ (x = true ↔ AvT ms s)) ∧ Below w.heap.size w w' := by
  obtain ⟨A, c, rfl⟩ := h.slice
  have hb1 : Below w.heap.size w (w.alloc (.cells #[.slice A ms.length c] 27)) := balloc (bref w) _
  have k0 : (w.alloc (.cells #[.slice A ms.length c] 27)).heap[w.heap.size]? = some (.cells #[.slice A ms.length c] 27 (0, 0)) := alloc_at rfl
  have hp2 : 2 ^ ms.length ≤ 2 ^ 10 := Nat.pow_le_pow_right (by omega) hl
  have hs10 : s < 1024 := by omega
  have HMR := Lib.hid (fun W => rdmembers_run A ms.length c hl W)
  have hO := outS_sub ms.length s hl (by omega)
  obtain ⟨M, hM⟩ : ∃ M, 2 ^ ms.length - 1 = M := ⟨_, rfl⟩
  rw [hM] at hO HMR
  clear hM
  have HR := Lib.hid (outS_lt ms.length s hl)
  have HAV := Lib.hid (show AvT ms s ↔ (outS ms.length s = 0 ∨ IsQ 3 ms (outS ms.length s)) from Iff.rfl)
  generalize outS ms.length s = r at hO HR HAV
  have H := Lib.hid (h.below hb1)
  have HB := Lib.hid hb1
  have K0 := Lib.hid k0
  have HOK := Lib.hid hok
  have HS := Lib.hid hs
  clear h hb1 k0 hp2 hs hok
  go_enter Tryz.func98, Tryz.ntmps98
  go_upto_region 1 with fail
  generalize w.alloc (.cells #[.slice A ms.length c] 27) = W1 at *
  generalize hg : w.heap.size = g at *
  have HG := Lib.hid hg
  clear hg
  have c0 : W1.cell? ⟨g, 0, none⟩ = some (.slice A ms.length c) := cell_of_row _ _ 0 _ _ (0, 0) K0.out
  have HBw := Lib.hid (show Below w.heap.size w W1 by rw [HG.out]; exact HB.out)
  go_wp2_with fail
  refine (D3.rcvalid_run P ms _ _ hl H.out HOK.out).mono ?_
  rintro e W2x ⟨rfl, hbx⟩
  have c1 := (hbx.cell (cell_lt c0)).trans c0
  have HB1 := Lib.hid (bstep HBw.out hbx)
  have H1 := Lib.hid (H.out.below hbx)
  clear hbx c0
  go_wp2_with fail
  refine (rdset_run P ms _ s _ hl HS.out H1.out HOK.out).mono ?_
  rintro e W3x ⟨rfl, hbx⟩
  have c2 := (hbx.cell (cell_lt c1)).trans c1
  have HB2 := Lib.hid (bstep HB1.out hbx)
  have H2 := Lib.hid (H1.out.below hbx)
  clear hbx c1
  go_wp2_with fail
  refine (HMR.out _).mono ?_
  rintro e W4x ⟨rfl, hbx⟩
  have c3 := (hbx.cell (cell_lt c2)).trans c2
  have HB3 := Lib.hid (bstep HB2.out hbx)
  have H3 := Lib.hid (H2.out.below hbx)
  clear hbx c2
  by_cases hr0 : r = 0
  · subst hr0
    go_wp2_with fail
    go_ret2
    exact ⟨⟨true, rfl, iff_of_true rfl (HAV.out.2 (.inl (by first | rfl | trivial)))⟩, HB3.out⟩
  · have hr0i : ¬ (r : Int) = 0 := by omega
    go_wp2_with fail
    refine (rquorum_run P 3 ms _ r _ hl HR.out H3.out).mono ?_
    rintro e Wq ⟨b, rfl, hq, hbq⟩
    have HQ := Lib.hid hq
    have HBQ := Lib.hid (bstep HB3.out hbq)
    clear hbq hq
    go_wp2_with fail
    go_ret2
    exact ⟨⟨((r : Int) == 0 || b), rfl, (show ((r : Int) == 0 || b) = true ↔ b = true by rw [show ((r : Int) == 0) = false by simpa using hr0]; simp).trans <| HQ.out.trans (Iff.trans ⟨fun h => Or.inr h, fun h => h.resolve_left hr0⟩ HAV.out.symm)⟩, HBQ.out⟩

set_option maxRecDepth 100000 in
set_option maxHeartbeats 8000000 in
theorem rdvalid_run (P Q : Nat → Prop) (ls hs : List Mem) (vl vh : Value) (w : World) (hl : ls.length ≤ 7) (h1 : MemsAt P 3 w vl ls) (h2 : MemsAt Q 3 w vh hs) (hp : PairM ls hs) :
    Calls Tryz.prog 97 #[.agg #[vl], .agg #[vh]] w fun e w' => e = .returned (.int .i64 0) ∧ Below w.heap.size w w' := by
  obtain ⟨A, c, rfl⟩ := h1.slice
  obtain ⟨B, d, rfl⟩ := h2.slice
  have hlen := hp.len
  have hokl := hp.okl
  have hokh := hp.okh
  have hdec := hp.decl
  have HDL := Lib.hid (fun W (h : MemsAt P 3 W (.slice A ls.length c) ls) => rdeclared_run P 3 ls _ W (by omega) h)
  have HDH := Lib.hid (fun W (h : MemsAt Q 3 W (.slice B hs.length d) hs) => rdeclared_run Q 3 hs _ W (by omega) h)
  rw [hdec] at HDH
  rw [hlen] at h2 HDH hokh ⊢
  obtain ⟨n, hn⟩ : ∃ n, ls.length = n := ⟨_, rfl⟩
  have HN := Lib.hid hn
  have HNH := Lib.hid hlen
  rw [hn] at HNH
  have HD := Lib.hid (fun k (h : (declS ls ls.length).testBit k = true) => declS_bit h)
  have HDM := Lib.hid (fun k (h : (declS ls ls.length).testBit k = true) => declS_memD h)
  have hDl : declS ls ls.length < 1024 := declS_lt ls _ (by omega)
  generalize declS ls ls.length = D at HDL HDH hDl HD HDM
  rw [hn] at h1 h2 HDL HDH hokl hokh hl HD ⊢
  have HP := Lib.hid hp
  have HOL := Lib.hid hokl
  have HOH := Lib.hid hokh
  have HPA := Lib.hid (PA.new h1 h2)
  clear h1 h2 hp hokl hokh hn hdec hlen
  go_enter Tryz.func97, Tryz.ntmps97
  go_upto_region 1 with fail
  generalize ((w.alloc (.cells #[.slice A n c] 27)).alloc (.cells #[.slice B n d] 27)) = W1 at *
  generalize w.heap.size = g at HPA ⊢
  have l0 := HPA.out.cs.1
  have h0 := HPA.out.cs.2.1
  go_wp2_with fail
  refine (D3.rcvalid_run P ls _ _ (by rw [HN.out]; omega) HPA.out.ml (by rw [HN.out]; exact HOL.out)).mono ?_
  rintro e W1x ⟨rfl, hbx⟩
  have HPA1 := Lib.hid (HPA.out.to hbx)
  clear hbx l0 h0
  have l1 := HPA1.out.cs.1
  have h1 := HPA1.out.cs.2.1
  go_wp2_with fail
  refine (D3.rcvalid_run Q hs _ _ (by rw [HNH.out]; omega) HPA1.out.mh (by rw [HNH.out]; exact HOH.out)).mono ?_
  rintro e W2x ⟨rfl, hbx⟩
  have HPA2 := Lib.hid (HPA1.out.to hbx)
  clear hbx l1 h1
  have l2 := HPA2.out.cs.1
  have h2 := HPA2.out.cs.2.1
  go_upto_region 7 with fail
  have hS := Lib.hid (HPA2.out.to (bdrew (bref W2x))).cs
  go_region_held3 (fun W => W.cell? ⟨g, 0, none⟩ = some (.slice A n c) ∧ W.cell? ⟨g + 1, 0, none⟩ = some (.slice B n d) ∧ PA P Q w g (.slice A n c) (.slice B n d) ls hs W) (first | exact hS.out | exact hSK | exact paKeep (by assumption) hbK | go_keep)
    (first
      | (go_at_call_of 20 (Value.agg #[.slice A n c]); refine (HDL.out _ (by exact (paSelf (by assumption)).ml)).mono ?_; rintro e WK ⟨rfl, hbK⟩; have hSK := paKeep (by assumption) hbK)
      | (go_at_call_of 20 (Value.agg #[.slice B n d]); refine (HDH.out _ (by exact (paSelf (by assumption)).mh)).mono ?_; rintro e WK ⟨rfl, hbK⟩; have hSK := paKeep (by assumption) hbK))
  all_goals
    have hpa := paSelf (vl := .slice A n c) (vh := .slice B n d) (by assumption)
    have HPA4 := Lib.hid hpa
    have l0 := hpa.cs.1
    have hN7 : 2 ^ n ≤ 2 ^ 7 := Nat.pow_le_pow_right (by decide) hl
    have HMR := Lib.hid (fun W => rdmembers_run A n c (by omega) W)
    have hp1 : 1 ≤ 2 ^ n := Nat.one_le_two_pow
    obtain ⟨M, hM⟩ : ∃ M, 2 ^ n - 1 = M := ⟨_, rfl⟩
    have hM2 : M < 128 := by omega
    rw [hM] at HMR
    clear hpa hS hM hp1 hN7
    go_wp2_with fail
    go_loopw [40] (fun t W => ∃ k : Nat, k ≤ n ∧ t = .int .i64 (k : Int) ∧ Hid (PA P Q w g (.slice A n c) (.slice B n d) ls hs W)) (fun t _ => n - (intOf t).toNat)
    case atStart => exact ⟨0, Nat.zero_le _, rfl, HPA4⟩
    case round =>
      obtain ⟨k, hk, rfl, hPr⟩ := hrel
      clear l0
      by_cases hlt : k < n
      · have hpa := hPr.out
        obtain ⟨lm, hlm⟩ : ∃ x, ls[k]? = some x := ⟨_, List.getElem?_eq_getElem (by rw [HN.out]; exact hlt)⟩
        obtain ⟨hm2, hhm⟩ : ∃ x, hs[k]? = some x := ⟨_, List.getElem?_eq_getElem (by rw [HNH.out]; exact hlt)⟩
        obtain ⟨A', c', hA', hL⟩ := hpa.ml
        injection hA' with r1 r2 r3
        subst r1
        obtain ⟨b, off, u0, u1, u2, rfl, _, f0, f1, f2, f3, hT⟩ := hL k lm hlm
        obtain ⟨B', d', hB', hH⟩ := hpa.mh
        injection hB' with s1 s2 s3
        subst s1
        obtain ⟨b', off', v0, v1, v2, rfl, _, _, k1, k2, k3, hU⟩ := hH k hm2 hhm
        obtain ⟨t0, a1, n1, x1, a2, n2, x2, rfl, rfl, rfl⟩ := hT.form
        obtain ⟨t', b1, m1, z1, b2, m2, z2, rfl, rfl, rfl⟩ := hU.form
        have l0 := hpa.cs.1
        have HST := Lib.hid (show SV P Q w g b off b' off' k n c d t0 t' (.slice a1 n1 x1) (.slice a2 n2 x2) (.slice b1 m1 z1) (.slice b2 m2 z2) lm.2 hm2.2 ls hs wr from ⟨hpa.cs.1, hpa.cs.2.1, f1, f2, f3, k1, k2, k3, hpa, hT, hU⟩)
        have HIMP := Lib.hid (fun (hd : lm.1 = true) => HP.out.sat hlm hhm hd)
        obtain ⟨dc, T⟩ := lm
        clear hL hH hT hU f1 f2 f3 k1 k2 k3 r2 r3 s2 s3 hlm hhm
        cases dc
        · go_wp2_with fail
          go_roundw
          case rel => exact ⟨k + 1, hlt, by go_num, hPr⟩
          case measure => simp [intOf]; omega
        · obtain ⟨wo, hwo⟩ : ∃ wo : World, wo = wr := ⟨_, rfl⟩
          go_wp2_with fail
          subst hwo
          clear f0 l0
          go_loopw [8] (fun t W => ∃ j : Nat, j ≤ M + 1 ∧ t = .int .i64 (j : Int) ∧ Hid (SV P Q w g b off b' off' k n c d t0 t' (.slice a1 n1 x1) (.slice a2 n2 x2) (.slice b1 m1 z1) (.slice b2 m2 z2) T hm2.2 ls hs W)) (fun t _ => M + 1 - (intOf t).toNat)
          case atStart => exact ⟨0, by omega, rfl, HST⟩
          case round =>
            obtain ⟨j, hj, rfl, hSV⟩ := hrel
            have l1 := hSV.out.1
            go_wp2_with fail
            refine (HMR.out _).mono ?_
            rintro e W8 ⟨rfl, hb8⟩
            have HS8 := Lib.hid (SV.keep hSV.out hb8)
            clear hb8 l1
            by_cases hlt2 : j ≤ M
            · have hlti : (j : Int) ≤ (M : Int) := by omega
              obtain ⟨l1, l2, f1, f2, f3, k1, k2, k3, hq⟩ := HS8.out
              have HQ8 := Lib.hid hq
              clear hq
              go_wp2_with fail
              refine (rsat_run Q 3 hm2.2 _ _ _ j _ (by omega) HQ8.out.2.2).mono ?_
              rintro e W9 ⟨rfl, hb9⟩
              have HS9 := Lib.hid (SV.keep HS8.out hb9)
              obtain ⟨sb, hsb⟩ : ∃ sb, satB 3 hm2.2 ((j : Nat) : Int) = sb := ⟨_, rfl⟩
              have HSB := Lib.hid hsb
              rw [hsb]
              clear hb9 hsb l1 l2 f1 f2 f3 k1 k2 k3
              cases sb
              · go_wp2_with fail
                go_roundw
                case rel => exact ⟨j + 1, by omega, by go_num, HS9⟩
                case measure => simp [intOf]; omega
              · obtain ⟨l1, l2, f1, f2, f3, k1, k2, k3, hq⟩ := HS9.out
                have HQ9 := Lib.hid hq
                clear hq
                go_wp2_with fail
                refine (rsat_run P 3 T _ _ _ j _ (by omega) HQ9.out.2.1).mono ?_
                rintro e W10 ⟨rfl, hb10⟩
                rw [HIMP.out (by first | rfl | trivial) j (by omega) HSB.out]
                have HS10 := Lib.hid (SV.keep HS9.out hb10)
                clear hb10 l1 l2 f1 f2 f3 k1 k2 k3
                go_wp2_with fail
                go_roundw
                case rel => exact ⟨j + 1, by omega, by go_num, HS10⟩
                case measure => simp [intOf]; omega
            · have hlti : ¬ (j : Int) ≤ (M : Int) := by omega
              have HPZ := Lib.hid (svL HS8.out).1
              go_wp2_with fail
              go_roundw
              case rel => exact ⟨k + 1, hlt, by go_num, HPZ⟩
              case measure => simp [intOf]; omega
      · obtain rfl : k = n := by omega
        have HBF := Lib.hid hPr.out.bel
        go_wp2_with fail
        go_ret
        exact ⟨rfl, HBF.out⟩

set_option maxRecDepth 100000 in
set_option maxHeartbeats 4000000 in
theorem rdbegin_run (P Q : Nat → Prop) (ls hs : List Mem) (vl vh : Value) (s : Nat) (hsx : s < 2 ^ ls.length) (w : World) (hl : ls.length ≤ 7) (h1 : MemsAt P 3 w vl ls) (h2 : MemsAt Q 3 w vh hs) (hp : PairM ls hs) :
    Calls Tryz.prog 56 #[.agg #[vl], .agg #[vh], .int .i64 (s : Int)] w fun e w' => e = .returned (.int .i64 0) ∧ Below w.heap.size w w' := by
  have HS := Lib.hid hsx
  clear hsx
  obtain ⟨A, c, rfl⟩ := h1.slice
  obtain ⟨B, d, rfl⟩ := h2.slice
  have hlen := hp.len
  have hokl := hp.okl
  have hokh := hp.okh
  have hdec := hp.decl
  have HDL := Lib.hid (fun W (h : MemsAt P 3 W (.slice A ls.length c) ls) => rdeclared_run P 3 ls _ W (by omega) h)
  have HDH := Lib.hid (fun W (h : MemsAt Q 3 W (.slice B hs.length d) hs) => rdeclared_run Q 3 hs _ W (by omega) h)
  rw [hdec] at HDH
  rw [hlen] at h2 HDH hokh ⊢
  obtain ⟨n, hn⟩ : ∃ n, ls.length = n := ⟨_, rfl⟩
  have HN := Lib.hid hn
  have HNH := Lib.hid hlen
  rw [hn] at HNH
  have HD := Lib.hid (fun k (h : (declS ls ls.length).testBit k = true) => declS_bit h)
  have HDM := Lib.hid (fun k (h : (declS ls ls.length).testBit k = true) => declS_memD h)
  have hDl : declS ls ls.length < 1024 := declS_lt ls _ (by omega)
  generalize declS ls ls.length = D at HDL HDH hDl HD HDM
  rw [hn] at h1 h2 HDL HDH hokl hokh hl HD ⊢
  have HP := Lib.hid hp
  have HOL := Lib.hid hokl
  have HOH := Lib.hid hokh
  have HPA := Lib.hid (PA.new h1 h2)
  clear h1 h2 hp hokl hokh hn hdec hlen
  go_enter Tryz.func56, Tryz.ntmps56
  go_upto_region 1 with fail
  generalize ((w.alloc (.cells #[.slice A n c] 27)).alloc (.cells #[.slice B n d] 27)) = W1 at *
  generalize w.heap.size = g at HPA ⊢
  have l0 := HPA.out.cs.1
  have h0 := HPA.out.cs.2.1
  go_wp2_with fail
  refine (rdvalid_run P Q ls hs _ _ _ (by rw [HN.out]; exact hl) HPA.out.ml HPA.out.mh HP.out).mono ?_
  rintro e W1x ⟨rfl, hbx⟩
  have HPA1 := Lib.hid (HPA.out.to hbx)
  clear hbx l0 h0
  have l1 := HPA1.out.cs.1
  have h1 := HPA1.out.cs.2.1
  go_wp2_with fail
  refine (rdset_run P ls _ s _ (by rw [HN.out]; omega) HS.out HPA1.out.ml (by rw [HN.out]; exact HOL.out)).mono ?_
  rintro e W2x ⟨rfl, hbx⟩
  have HPA2 := Lib.hid (HPA1.out.to hbx)
  clear hbx l1 h1
  have l2 := HPA2.out.cs.1
  have h2 := HPA2.out.cs.2.1
  go_wp2_with fail
  go_ret
  exact ⟨rfl, HPA2.out.bel⟩

set_option maxRecDepth 100000 in
set_option maxHeartbeats 4000000 in
theorem rdis_run (P Q : Nat → Prop) (ls hs : List Mem) (vl vh : Value) (s : Nat) (hsx : s < 2 ^ ls.length) (w : World) (hl : ls.length ≤ 7) (h1 : MemsAt P 3 w vl ls) (h2 : MemsAt Q 3 w vh hs) (hp : PairM ls hs) :
    Calls Tryz.prog 57 #[.agg #[vl], .agg #[vh], .int .i64 (s : Int)] w fun e w' => (∃ x : Bool, e = .returned (.bool x) ∧ (x = true ↔ AvT hs s ∧ InT (D3.delM s ls))) ∧ Below w.heap.size w w' := by
  have HS := Lib.hid hsx
  clear hsx
  obtain ⟨A, c, rfl⟩ := h1.slice
  obtain ⟨B, d, rfl⟩ := h2.slice
  have hlen := hp.len
  have hokl := hp.okl
  have hokh := hp.okh
  have hdec := hp.decl
  have HDL := Lib.hid (fun W (h : MemsAt P 3 W (.slice A ls.length c) ls) => rdeclared_run P 3 ls _ W (by omega) h)
  have HDH := Lib.hid (fun W (h : MemsAt Q 3 W (.slice B hs.length d) hs) => rdeclared_run Q 3 hs _ W (by omega) h)
  rw [hdec] at HDH
  rw [hlen] at h2 HDH hokh ⊢
  obtain ⟨n, hn⟩ : ∃ n, ls.length = n := ⟨_, rfl⟩
  have HN := Lib.hid hn
  have HNH := Lib.hid hlen
  rw [hn] at HNH
  have HD := Lib.hid (fun k (h : (declS ls ls.length).testBit k = true) => declS_bit h)
  have HDM := Lib.hid (fun k (h : (declS ls ls.length).testBit k = true) => declS_memD h)
  have hDl : declS ls ls.length < 1024 := declS_lt ls _ (by omega)
  generalize declS ls ls.length = D at HDL HDH hDl HD HDM
  rw [hn] at h1 h2 HDL HDH hokl hokh hl HD ⊢
  have HP := Lib.hid hp
  have HOL := Lib.hid hokl
  have HOH := Lib.hid hokh
  have HPA := Lib.hid (PA.new h1 h2)
  clear h1 h2 hp hokl hokh hn hdec hlen
  go_enter Tryz.func57, Tryz.ntmps57
  go_upto_region 1 with fail
  generalize ((w.alloc (.cells #[.slice A n c] 27)).alloc (.cells #[.slice B n d] 27)) = W1 at *
  generalize w.heap.size = g at HPA ⊢
  have l0 := HPA.out.cs.1
  have h0 := HPA.out.cs.2.1
  go_wp2_with fail
  refine (rdavail_run Q hs _ s _ (by rw [HNH.out]; omega) (by rw [HP.out.len]; exact HS.out) HPA.out.mh (by rw [HNH.out]; exact HOH.out)).mono ?_
  rintro e W1x ⟨⟨x, rfl, hx⟩, hbx⟩
  have HPA1 := Lib.hid (HPA.out.to hbx)
  clear hbx l0 h0
  have l1 := HPA1.out.cs.1
  have h1 := HPA1.out.cs.2.1
  have HX := Lib.hid hx
  clear hx
  cases x
  · go_wp2_with fail
    go_ret
    exact ⟨⟨false, rfl, iff_of_false (by simp) (fun h => by have := HX.out.2 h.1; cases this)⟩, HPA1.out.bel⟩
  · go_wp2_with fail
    refine (rdints_run P ls _ s _ (by rw [HN.out]; omega) HS.out HPA1.out.ml (by rw [HN.out]; exact HOL.out)).mono ?_
    rintro e W2x ⟨⟨y, rfl, hy⟩, hbx⟩
    have HPA2 := Lib.hid (HPA1.out.to hbx)
    clear hbx l1 h1
    have l2 := HPA2.out.cs.1
    have h2 := HPA2.out.cs.2.1
    have HY := Lib.hid hy
    clear hy
    go_wp2_with fail
    go_ret
    exact ⟨⟨y, rfl, HY.out.trans ⟨fun h => ⟨HX.out.1 (by first | rfl | trivial), h⟩, fun h => h.2⟩⟩, HPA2.out.bel⟩

set_option maxRecDepth 100000 in
set_option maxHeartbeats 4000000 in
theorem rdIs_run (P Q : Nat → Prop) (ls hs : List Mem) (vl vh : Value) (s : Nat) (hsx : s < 2 ^ ls.length) (w : World) (hl : ls.length ≤ 7) (h1 : MemsAt P 3 w vl ls) (h2 : MemsAt Q 3 w vh hs) (hp : PairM ls hs) :
    Calls Tryz.prog 22 #[.agg #[vl], .agg #[vh], .int .i64 (s : Int)] w fun e w' => (∃ x : Bool, e = .returned (.tuple #[.bool x, .int .i64 0]) ∧ (x = true ↔ AvT hs s ∧ InT (D3.delM s ls))) ∧ Below w.heap.size w w' := by
  have HS := Lib.hid hsx
  clear hsx
  obtain ⟨A, c, rfl⟩ := h1.slice
  obtain ⟨B, d, rfl⟩ := h2.slice
  have hlen := hp.len
  have hokl := hp.okl
  have hokh := hp.okh
  have hdec := hp.decl
  have HDL := Lib.hid (fun W (h : MemsAt P 3 W (.slice A ls.length c) ls) => rdeclared_run P 3 ls _ W (by omega) h)
  have HDH := Lib.hid (fun W (h : MemsAt Q 3 W (.slice B hs.length d) hs) => rdeclared_run Q 3 hs _ W (by omega) h)
  rw [hdec] at HDH
  rw [hlen] at h2 HDH hokh ⊢
  obtain ⟨n, hn⟩ : ∃ n, ls.length = n := ⟨_, rfl⟩
  have HN := Lib.hid hn
  have HNH := Lib.hid hlen
  rw [hn] at HNH
  have HD := Lib.hid (fun k (h : (declS ls ls.length).testBit k = true) => declS_bit h)
  have HDM := Lib.hid (fun k (h : (declS ls ls.length).testBit k = true) => declS_memD h)
  have hDl : declS ls ls.length < 1024 := declS_lt ls _ (by omega)
  generalize declS ls ls.length = D at HDL HDH hDl HD HDM
  rw [hn] at h1 h2 HDL HDH hokl hokh hl HD ⊢
  have HP := Lib.hid hp
  have HOL := Lib.hid hokl
  have HOH := Lib.hid hokh
  have HPA := Lib.hid (PA.new h1 h2)
  clear h1 h2 hp hokl hokh hn hdec hlen
  go_enter Tryz.func22, Tryz.ntmps22
  go_upto_region 1 with fail
  generalize ((w.alloc (.cells #[.slice A n c] 27)).alloc (.cells #[.slice B n d] 27)) = W1 at *
  generalize w.heap.size = g at HPA ⊢
  have l0 := HPA.out.cs.1
  have h0 := HPA.out.cs.2.1
  go_wp2_with fail
  refine (rdbegin_run P Q ls hs _ _ s HS.out _ (by rw [HN.out]; exact hl) HPA.out.ml HPA.out.mh HP.out).mono ?_
  rintro e W1x ⟨rfl, hbx⟩
  have HPA1 := Lib.hid (HPA.out.to hbx)
  clear hbx l0 h0
  have l1 := HPA1.out.cs.1
  have h1 := HPA1.out.cs.2.1
  go_wp2_with fail
  refine (rdis_run P Q ls hs _ _ s HS.out _ (by rw [HN.out]; exact hl) HPA1.out.ml HPA1.out.mh HP.out).mono ?_
  rintro e W2x ⟨⟨x, rfl, hx⟩, hbx⟩
  have HPA2 := Lib.hid (HPA1.out.to hbx)
  clear hbx l1 h1
  have l2 := HPA2.out.cs.1
  have h2 := HPA2.out.cs.2.1
  have HX := Lib.hid hx
  clear hx
  go_wp2_with fail
  go_ret2
  exact ⟨⟨x, rfl, HX.out⟩, HPA2.out.bel⟩
end Go.Proofs.YtacpfcckilnbfaaGreat
