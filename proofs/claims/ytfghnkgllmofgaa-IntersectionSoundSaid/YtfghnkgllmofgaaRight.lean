/- The contracts of nodeset.Of, threshold.right and threshold.Valid, for well-formed trusts. -/
import Derived.Test.YtfghnkgllmofgaaFits
import Derived.Test.YtfghnkgllmofgaaRef02
namespace Go.Proofs.Ytfghnkgllmofgaa
set_option linter.unusedVariables false
set_option linter.unusedSimpArgs false
open Go.RowKit

set_option maxHeartbeats 400000 in
theorem right1_run (x : Int) (w : World) (h0 : 0 ≤ x) (h1 : x < 10) :
    Calls Try.prog 85 #[.int .i64 x] w fun e w' => e = .returned (.bool false) ∧ w = w' := by
  have e0 : decide (x < 0) = false := by simpa using h0
  have e1 : decide (10 ≤ x) = false := by simpa using h1
  go_enter Try.func85, Try.ntmps85
  go_wp2
  go_ret
  exact ⟨rfl, rfl⟩

set_option maxHeartbeats 1000000 in
theorem indexRight_run (A : Option Addr) (c : Nat) (ns : List Int) (w : World) (hn : ns.length ≤ 1000000) (hr : InR ns)
    (h : ∀ k, k < ns.length → ∃ b off, A = some ⟨b, off, none⟩ ∧ w.cell? ⟨b, off + k, none⟩ = some (.int .i64 (ns.getD k 0))) :
    Calls Try.prog 91 #[.slice A ns.length c, .func (.func 85) #[] #[]] w fun e w' => e = .returned (.int .i64 (-1)) ∧ w = w' := by
  have H := Lib.hid h
  have HR := Lib.hid hr
  clear h hr
  go_enter Try.func91, Try.ntmps91
  go_wp2_with fail
  go_loop [8] (fun t => ∃ k : Nat, k ≤ ns.length ∧ t = .int .i64 k) (fun t => ns.length - (intOf t).toNat)
  case atStart => exact ⟨0, by omega, rfl⟩
  case round =>
    obtain ⟨k, hk, rfl⟩ := hrel
    by_cases hlt : k < ns.length
    · obtain ⟨b, off, rfl, hc⟩ := H.out k hlt
      have hx0 : ns[k]? = some (ns.getD k 0) := by rw [List.getD_eq_getElem?_getD, List.getElem?_eq_getElem hlt]; rfl
      obtain ⟨x0, x1⟩ := HR.out _ (List.mem_of_getElem? hx0)
      clear hx0
      generalize ns.getD k 0 = x at *
      go_wp2_with fail
      refine (right1_run x _ x0 x1).mono ?_
      rintro e w2 ⟨rfl, rfl⟩
      go_wp2_with fail
      go_round
      case rel => exact ⟨k + 1, by omega, by go_num⟩
      case measure => simp [intOf]; omega
    · obtain rfl : k = ns.length := by omega
      go_wp2_with fail
      go_ret
      exact ⟨rfl, rfl⟩

set_option maxHeartbeats 1000000 in
theorem containsRight_run (A : Option Addr) (c : Nat) (ns : List Int) (w : World) (hn : ns.length ≤ 1000000) (hr : InR ns)
    (h : ∀ k, k < ns.length → ∃ b off, A = some ⟨b, off, none⟩ ∧ w.cell? ⟨b, off + k, none⟩ = some (.int .i64 (ns.getD k 0))) :
    Calls Try.prog 84 #[.slice A ns.length c, .func (.func 85) #[] #[]] w fun e w' => e = .returned (.bool false) ∧ w = w' := by
  have H := Lib.hid h
  clear h
  go_enter Try.func84, Try.ntmps84
  go_wp2_with fail
  refine (indexRight_run A c ns _ hn hr H.out).mono ?_
  rintro e w2 ⟨rfl, rfl⟩
  go_wp2_with fail
  go_ret
  exact ⟨rfl, rfl⟩

set_option maxHeartbeats 2000000 in
theorem pof_run (A : Option Addr) (c : Nat) (ns : List Int) (w : World) (hn : ns.length ≤ 1000000) (hr : InR ns) (hd : ns.Nodup)
    (h : ∀ k, k < ns.length → ∃ b off, A = some ⟨b, off, none⟩ ∧ w.cell? ⟨b, off + k, none⟩ = some (.int .i64 (ns.getD k 0))) :
    Calls Try.prog 86 #[.slice A ns.length c] w fun e w' => e = .returned (.tuple #[.int .i64 (nodesS ns), .int .i64 0]) ∧ w = w' := by
  have H := Lib.hid h
  have HR := Lib.hid hr
  have HD := Lib.hid hd
  clear h hr hd
  go_enter Try.func86, Try.ntmps86
  go_wp2_with fail
  go_loop [4, 9] (fun u t => ∃ (k s : Nat), k ≤ ns.length ∧ t = .int .i64 k ∧ u = .int .i64 (s : Int) ∧ Hid (s = (ns.take k).foldl bitS 0)) (fun _ t => ns.length - (intOf t).toNat)
  case atStart => exact ⟨0, 0, by omega, rfl, rfl, Lib.hid (by simp)⟩
  case round =>
    obtain ⟨k, s, hk, rfl, rfl, hs⟩ := hrel
    have hs1 : s < 1024 := by rw [hs.out]; exact foldBit_lt _ 0 (by omega)
    by_cases hlt : k < ns.length
    · obtain ⟨b, off, rfl, hc⟩ := H.out k hlt
      have hx0 : ns[k]? = some (ns.getD k 0) := by rw [List.getD_eq_getElem?_getD, List.getElem?_eq_getElem hlt]; rfl
      have hs' := foldl_take_succ bitS 0 hx0
      rw [← hs.out] at hs'
      have hin := HR.out _ (List.mem_of_getElem? hx0)
      have hnot : hasB (s : Int) (ns.getD k 0) = false := by
        unfold hasB
        rw [hs.out]
        have : ((List.foldl bitS 0 (List.take k ns)).testBit (ns.getD k 0).toNat) = false := by
          rw [foldBit_bit _ 0 _ (fun x hx => HR.out x (List.mem_of_mem_take hx))]
          have e : (((ns.getD k 0).toNat : Nat) : Int) = ns.getD k 0 := by omega
          rw [e]
          simp only [Nat.zero_testBit, Bool.false_or, decide_eq_false_iff_not]
          intro hmem
          obtain ⟨i, hi, hie⟩ := List.getElem_of_mem hmem
          rw [List.getElem_take] at hie
          have hik : i < k := by simp at hi; omega
          have h2 := List.pairwise_iff_getElem.1 (List.nodup_iff_pairwise_ne.1 HD.out) i k (by omega) hlt hik
          apply h2
          rw [hie, List.getD_eq_getElem?_getD, List.getElem?_eq_getElem hlt]; rfl
        rw [Int.toNat_natCast, this]
        simp
      generalize ns.getD k 0 = x at *
      obtain ⟨h0, h10⟩ := hin
      obtain ⟨K, rfl⟩ := Int.eq_ofNat_of_zero_le h0
      have hK : K < 10 := by omega
      have HS := Lib.hid (show (ns.take (k + 1)).foldl bitS 0 = s ||| 2 ^ K by rw [hs']; unfold bitS; rw [if_pos ⟨h0, h10⟩]; rfl)
      have HOR := Lib.hid (shl_or s K (by omega) hK)
      have HN := Lib.hid hnot
      clear hs' hx0 hnot
      have HNB := Lib.hid (show nodeB (K : Int) = true by rw [nodeB_iff]; omega)
      go_wp2_with fail
      refine (isNode_run _ _).mono ?_
      rintro e w2 ⟨rfl, rfl⟩
      rw [HNB.out]
      go_wp2_with fail
      refine (has_run _ _ _).mono ?_
      rintro e w2 ⟨rfl, rfl⟩
      rw [HN.out]
      go_wp2_with fail
      rw [HOR.out]
      go_round
      case rel => exact ⟨k + 1, _, by omega, by go_num, rfl, Lib.hid HS.out.symm⟩
      case measure => simp [intOf]; omega
    · obtain rfl : k = ns.length := by omega
      have hN := Lib.hid (show s = nodesS ns by rw [hs.out, List.take_length]; rfl)
      go_wp2_with fail
      go_ret2
      exact ⟨by rw [hN.out]; rfl, rfl⟩

set_option maxHeartbeats 4000000 in
theorem right_run (P : Nat → Prop) (n : Int) (hn10 : n ≤ 10) : ∀ (d : Nat) (T : Tree) (v0 v1 v2 : Value) (w : World), TAt P d w v0 v1 v2 T → WF n d T →
    Calls Try.prog 76 #[.agg #[v0, v1, v2]] w fun e w' => e = .returned (.int .i64 0) ∧ Below w.heap.size w w' := by
  intro d
  induction d with
  | zero => intro T v0 v1 v2 w h; exact h.elim
  | succ d ih =>
    intro T v0 v1 v2 w h hW
    obtain ⟨thr, ns, is⟩ := T
    obtain ⟨A, c, B, c', rfl, rfl, rfl, hn, hi, hbx⟩ := h.boxed
    have hinr := hW.inR hn10
    obtain ⟨ht0, ht1, hl5, hl3, hr, hnd, hWi⟩ := hW
    have HBX := Lib.hid hbx
    have HB1 := Lib.hid (balloc (bref w) (.cells #[.int .i64 thr, .slice A ns.length c, .slice B is.length c'] 49))
    have IH := Lib.hid ih
    have HIN := Lib.hid hinr
    have HND := Lib.hid hnd
    have HWI := Lib.hid hWi
    have hthr : thr ≤ (ns.length : Int) + (is.length : Int) := by push_cast at ht1; exact ht1
    clear h hbx ih hr hnd hWi hinr ht1
    go_enter Try.func76, Try.ntmps76
    go_upto_region 1 with fail
    generalize w.alloc (.cells #[.int .i64 thr, .slice A ns.length c, .slice B is.length c'] 49) = W1 at *
    generalize hg : w.heap.size = g at *
    have hgw := Lib.hid hg
    clear hg
    have c0 := HBX.out.c0
    have c1 := HBX.out.c1
    have c2 := HBX.out.c2
    go_wp2_with fail
    refine (containsRight_run A c ns _ hn HIN.out HBX.out.nodes).mono ?_
    rintro e w2 ⟨rfl, rfl⟩
    go_wp2_with fail
    refine (pof_run A c ns _ hn HIN.out HND.out HBX.out.nodes).mono ?_
    rintro e w2 ⟨rfl, rfl⟩
    generalize nodesS ns = sns at *
    go_wp2_with fail
    go_loopw [38] (fun t wr => ∃ (k : Nat), k ≤ is.length ∧ t = .int .i64 k ∧ Hid (Below W1.heap.size W1 wr)) (fun t _ => is.length - (intOf t).toNat)
    case atStart => exact ⟨0, by omega, rfl, Lib.hid (bref _)⟩
    case round =>
      obtain ⟨k, hk, rfl, hBr⟩ := hrel
      by_cases hlt : k < is.length
      · obtain ⟨T, hT⟩ : ∃ T, is[k]? = some T := ⟨_, List.getElem?_eq_getElem hlt⟩
        obtain ⟨b, off, t', A', n', ca, B', m', cb, rfl, hlb, e0, e1, e2, hTk⟩ := (HBX.out.below hBr.out).inner k T hT
        have hWT := Lib.hid (HWI.out T (List.mem_of_getElem? hT))
        have hTr := Lib.hid (hTk.below (balloc (bref wr) (.cells #[.int .i64 t', .slice A' n' ca, .slice B' m' cb] 49)))
        have hBa := Lib.hid (balloc hBr.out (.cells #[.int .i64 t', .slice A' n' ca, .slice B' m' cb] 49))
        clear hT hTk
        go_wp2_with fail
        refine (IH.out T _ _ _ _ hTr.out hWT.out).mono ?_
        rintro e w2 ⟨rfl, hb2⟩
        have hB2 := Lib.hid (bstep hBa.out hb2)
        clear hb2
        go_wp2_with fail
        go_roundw
        case rel => exact ⟨k + 1, by omega, by go_num, hB2⟩
        case measure => simp [intOf]; omega
      · obtain rfl : k = is.length := by omega
        go_wp2_with fail
        go_ret
        exact ⟨rfl, by have h1 := HB1.out; rw [← hgw.out] at h1; exact bstep h1 hBr.out⟩


set_option maxHeartbeats 2000000 in
theorem pvalid_run (n : Int) (hn10 : n ≤ 10) (d : Nat) (hd : d ≤ 4) (P : Nat → Prop) (T : Tree) (v0 v1 v2 : Value) (w : World) (h : TAt P d w v0 v1 v2 T) (hW : WF n d T) (hs : sizeT d T ≤ 200) :
    Calls Try.prog 64 #[.agg #[v0, v1, v2]] w fun e w' => e = .returned (.int .i64 0) ∧ Below w.heap.size w w' := by
  obtain ⟨t', A', n', ca, B', m', cb, rfl, rfl, rfl⟩ := h.form
  have h' : TAt (fun b => b < w.heap.size) d w (.int .i64 t') (.slice A' n' ca) (.slice B' m' cb) T := h.imp (fun k hk _ => hk)
  have hb2 : Below w.heap.size w ((w.alloc (.cells #[.int .i64 t', .slice A' n' ca, .slice B' m' cb] 49)).alloc (.cells #[.int .i64 200] 3)) := balloc (balloc (bref w) _) _
  have k0 : ((w.alloc (.cells #[.int .i64 t', .slice A' n' ca, .slice B' m' cb] 49)).alloc (.cells #[.int .i64 200] 3)).heap[w.heap.size]? = some (.cells #[.int .i64 t', .slice A' n' ca, .slice B' m' cb] 49 (0, 0)) := alloc_on (alloc_at rfl)
  have k1 : ((w.alloc (.cells #[.int .i64 t', .slice A' n' ca, .slice B' m' cb] 49)).alloc (.cells #[.int .i64 200] 3)).heap[w.heap.size + 1]? = some (.cells #[.int .i64 200] 3 (0, 0)) := alloc_at (alloc_sz _ _)
  have HT := Lib.hid ((h'.below hb2).imp (Q := fun b => b ≠ w.heap.size + 1) (fun k hk hP => by omega))
  have HW := Lib.hid hW
  have HB2 := Lib.hid hb2
  have K0 := Lib.hid k0
  have HL : Hid (LeftAt ((w.alloc (.cells #[.int .i64 t', .slice A' n' ca, .slice B' m' cb] 49)).alloc (.cells #[.int .i64 200] 3)) (w.heap.size + 1) 200) := Lib.hid k1
  clear h h' hW hb2 k0 k1
  go_enter Try.func64, Try.ntmps64
  go_upto_region 2 with fail
  generalize ((w.alloc (.cells #[.int .i64 t', .slice A' n' ca, .slice B' m' cb] 49)).alloc (.cells #[.int .i64 200] 3)) = W2 at *
  generalize hg : w.heap.size = g at *
  have HG := Lib.hid hg
  clear hg
  have c0 : W2.cell? ⟨g, 0, none⟩ = some (.int .i64 t') := cell_of_row _ _ 0 _ _ (0, 0) K0.out
  have c1 : W2.cell? ⟨g, 1, none⟩ = some (.slice A' n' ca) := cell_of_row _ _ 1 _ _ (0, 0) K0.out
  have c2 : W2.cell? ⟨g, 2, none⟩ = some (.slice B' m' cb) := cell_of_row _ _ 2 _ _ (0, 0) K0.out
  have hgl := cell_lt c0
  go_wp2_with fail
  refine (fits_run d T _ _ _ 1 (g + 1) 200 _ HT.out (by omega) (by omega) HL.out hs (by omega)).mono ?_
  rintro e W4 ⟨rfl, _, hg4⟩
  have d0 : W4.cell? ⟨g, 0, none⟩ = some (.int .i64 t') := (World.cell?_of_block (hg4.block g hgl (by simp))).trans c0
  have d1 : W4.cell? ⟨g, 1, none⟩ = some (.slice A' n' ca) := (World.cell?_of_block (hg4.block g hgl (by simp))).trans c1
  have d2 : W4.cell? ⟨g, 2, none⟩ = some (.slice B' m' cb) := (World.cell?_of_block (hg4.block g hgl (by simp))).trans c2
  have HT4 := Lib.hid (HT.out.keep (fun k hk hP => hg4.block k hk (by simpa using hP)))
  have HB4 : Hid (Below w.heap.size w W4) := Lib.hid (by
    have h1 := HG.out
    have h2 := HB2.out
    rw [← h1] at h2
    exact h2.grown hg4 h2.size (fun k hk => by cases hk; omega))
  clear hg4 c0 c1 c2
  go_wp2_with fail
  refine (right_run _ n hn10 d T _ _ _ _ HT4.out HW.out).mono ?_
  rintro e W5 ⟨rfl, hb5⟩
  have HB5 := Lib.hid (bstep HB4.out hb5)
  clear hb5
  go_wp2_with fail
  go_ret
  exact ⟨rfl, by have h1 := HB5.out; exact h1⟩

end Go.Proofs.Ytfghnkgllmofgaa
