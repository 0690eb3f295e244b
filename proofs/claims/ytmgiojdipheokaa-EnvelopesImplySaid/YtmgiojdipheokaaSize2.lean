/- The contracts of Size, Depth and Uses: of the program's and of the reference's. -/
import Derived.Test.YtmgiojdipheokaaSize
namespace Go.Proofs.Ytmgiojdipheokaa
set_option linter.unusedVariables false
open Go.RowKit

set_option maxHeartbeats 4000000 in
theorem psize_run (P : Nat → Prop) : ∀ (d : Nat) (T : Tree) (v0 v1 v2 : Value) (w : World), TAt P d w v0 v1 v2 T → sizeT d T ≤ 1000000 →
    Calls Try.prog 51 #[.agg #[v0, v1, v2]] w fun e w' => e = .returned (.int .i64 (sizeT d T)) ∧ Below w.heap.size w w' := by
  intro d
  induction d with
  | zero => intro T v0 v1 v2 w h; exact h.elim
  | succ d ih =>
    intro T v0 v1 v2 w h hS
    obtain ⟨thr, ns, is⟩ := T
    obtain ⟨A, c, B, c', rfl, rfl, rfl, hn, hi, hbx⟩ := h.boxed
    have HBX := Lib.hid hbx
    have HB1 := Lib.hid (balloc (bref w) (.cells #[.int .i64 thr, .slice A ns.length c, .slice B is.length c'] 41))
    have IH := Lib.hid ih
    have HSM := Lib.hid (show sizeT (d + 1) (.mk thr ns is) = ns.length + is.length + (is.map (sizeT d)).sum from rfl)
    have hsum : (is.map (sizeT d)).sum ≤ 1000000 := by have := HSM.out; omega
    have HLE := Lib.hid (fun k T (hT : is[k]? = some T) => Nat.le_trans (sizeT_sub (d := d) (thr := thr) (ns := ns) hT) hS)
    clear h hbx ih hS
    go_enter Try.func51, Try.ntmps51
    go_upto_region 1 with fail
    generalize w.alloc (.cells #[.int .i64 thr, .slice A ns.length c, .slice B is.length c'] 41) = W1 at *
    generalize hg : w.heap.size = g at *
    have hgw := Lib.hid hg
    clear hg
    have c0 := HBX.out.c1
    have c1 := HBX.out.c2
    go_wp2_with fail
    go_loopw [3, 16] (fun u t wr => ∃ k : Nat, k ≤ is.length ∧ t = .int .i64 k ∧ u = .int .i64 ((ns.length + is.length + ((is.map (sizeT d)).take k).sum : Nat) : Int) ∧ Hid (Below W1.heap.size W1 wr)) (fun _ t _ => is.length - (intOf t).toNat)
    case atStart => exact ⟨0, by omega, rfl, by simp, Lib.hid (bref _)⟩
    case round =>
      obtain ⟨k, hk, rfl, rfl, hBr⟩ := hrel
      have hle := sum_take_le (is.map (sizeT d)) k
      by_cases hlt : k < is.length
      · obtain ⟨T, hT⟩ : ∃ T, is[k]? = some T := ⟨_, List.getElem?_eq_getElem hlt⟩
        obtain ⟨b, off, t', A', n', ca, B', m', cb, rfl, hlb, e0, e1, e2, hTk⟩ := (HBX.out.below hBr.out).inner k T hT
        have hT1 := HLE.out k T hT
        have hs' := sum_take_succ (l := is.map (sizeT d)) (k := k) (x := sizeT d T) (by rw [List.getElem?_map, hT]; rfl)
        have hs2 := sum_take_le (is.map (sizeT d)) (k + 1)
        have HS := Lib.hid hs'
        have hbd : ((is.map (sizeT d)).take k).sum + sizeT d T ≤ 1000000 := by omega
        have hTr := Lib.hid (hTk.below (balloc (bref wr) (.cells #[.int .i64 t', .slice A' n' ca, .slice B' m' cb] 41)))
        have hBa := Lib.hid (balloc hBr.out (.cells #[.int .i64 t', .slice A' n' ca, .slice B' m' cb] 41))
        clear hT hTk hs' hs2
        generalize hz : sizeT d T = z at *
        have HZ := Lib.hid hz
        clear hz
        go_wp2_with fail
        refine (IH.out T _ _ _ _ hTr.out (by rw [HZ.out]; omega)).mono ?_
        rintro e w2 ⟨rfl, hb2⟩
        rw [HZ.out]
        have hB2 := Lib.hid (bstep hBa.out hb2)
        clear hb2
        go_wp2_with fail
        go_roundw
        case rel => exact ⟨k + 1, by omega, by go_num, by rw [HS.out]; go_num, hB2⟩
        case measure => simp [intOf]; omega
      · obtain rfl : k = is.length := by omega
        have hfull : ((is.map (sizeT d)).take is.length).sum = (is.map (sizeT d)).sum := by
          rw [show is.length = (is.map (sizeT d)).length by simp, List.take_length]
        have HF := Lib.hid hfull
        clear hfull
        go_wp2_with fail
        go_ret
        exact ⟨by rw [HSM.out, HF.out]; rfl, by have h1 := HB1.out; rw [← hgw.out] at h1; exact bstep h1 hBr.out⟩

set_option maxHeartbeats 4000000 in
theorem rdepth_run (P : Nat → Prop) : ∀ (d : Nat) (T : Tree) (v0 v1 v2 : Value) (w : World), d ≤ 1000 → TAt P d w v0 v1 v2 T →
    Calls Try.prog 106 #[.agg #[v0, v1, v2]] w fun e w' => e = .returned (.int .i64 (depthT d T)) ∧ Below w.heap.size w w' := by
  intro d
  induction d with
  | zero => intro T v0 v1 v2 w hd h; exact h.elim
  | succ d ih =>
    intro T v0 v1 v2 w hd h
    obtain ⟨thr, ns, is⟩ := T
    obtain ⟨A, c, B, c', rfl, rfl, rfl, hn, hi, hbx⟩ := h.boxed
    have HBX := Lib.hid hbx
    have HB1 := Lib.hid (balloc (bref w) (.cells #[.int .i64 thr, .slice A ns.length c, .slice B is.length c'] 41))
    have IH := Lib.hid ih
    have HSM := Lib.hid (show depthT (d + 1) (.mk thr ns is) = ((is.map (depthT d)).foldl max 0) + 1 from rfl)
    have HLE := Lib.hid (fun k => fmax_le (n := d) ((is.map (depthT d)).take k) 0 (Nat.zero_le _) (fun x hx => by obtain ⟨T, _, rfl⟩ := List.mem_map.1 (List.mem_of_mem_take hx); exact depthT_le d T))
    clear h hbx ih
    go_enter Try.func106, Try.ntmps106
    go_upto_region 1 with fail
    generalize w.alloc (.cells #[.int .i64 thr, .slice A ns.length c, .slice B is.length c'] 41) = W1 at *
    generalize hg : w.heap.size = g at *
    have hgw := Lib.hid hg
    clear hg
    have c0 := HBX.out.c1
    have c1 := HBX.out.c2
    go_wp2_with fail
    go_loopw [3, 9] (fun u t wr => ∃ (k m : Nat), k ≤ is.length ∧ t = .int .i64 k ∧ u = .int .i64 (m : Int) ∧ Hid (m = ((is.map (depthT d)).take k).foldl max 0) ∧ Hid (Below W1.heap.size W1 wr)) (fun _ t _ => is.length - (intOf t).toNat)
    case atStart => exact ⟨0, 0, by omega, rfl, rfl, Lib.hid (by simp), Lib.hid (bref _)⟩
    case round =>
      obtain ⟨k, m, hk, rfl, rfl, hm, hBr⟩ := hrel
      have hmd : m ≤ d := by rw [hm.out]; exact HLE.out k
      by_cases hlt : k < is.length
      · obtain ⟨T, hT⟩ : ∃ T, is[k]? = some T := ⟨_, List.getElem?_eq_getElem hlt⟩
        obtain ⟨b, off, t', A', n', ca, B', m', cb, rfl, hlb, e0, e1, e2, hTk⟩ := (HBX.out.below hBr.out).inner k T hT
        have hs' := fmax_take_succ (l := is.map (depthT d)) (k := k) (x := depthT d T) (by rw [List.getElem?_map, hT]; rfl)
        rw [← hm.out] at hs'
        have HS := Lib.hid hs'
        have hdl := depthT_le d T
        have hTr := Lib.hid (hTk.below (balloc (bref wr) (.cells #[.int .i64 t', .slice A' n' ca, .slice B' m' cb] 41)))
        have hBa := Lib.hid (balloc hBr.out (.cells #[.int .i64 t', .slice A' n' ca, .slice B' m' cb] 41))
        clear hT hTk hs'
        generalize hz : depthT d T = z at *
        have HZ := Lib.hid hz
        clear hz
        go_wp2_with fail
        refine (IH.out T _ _ _ _ (by omega) hTr.out).mono ?_
        rintro e w2 ⟨rfl, hb2⟩
        rw [HZ.out]
        have hB2 := Lib.hid (bstep hBa.out hb2)
        clear hb2
        by_cases hmz : (m : Int) < (z : Int)
        · have hx := Lib.hid (show max m z = z by omega)
          go_wp2_with fail
          go_roundw
          case rel => exact ⟨k + 1, z, by omega, by go_num, by go_num, Lib.hid (by rw [HS.out, hx.out]), hB2⟩
          case measure => simp [intOf]; omega
        · have hx := Lib.hid (show max m z = m by omega)
          go_wp2_with fail
          go_roundw
          case rel => exact ⟨k + 1, m, by omega, by go_num, by go_num, Lib.hid (by rw [HS.out, hx.out]), hB2⟩
          case measure => simp [intOf]; omega
      · obtain rfl : k = is.length := by omega
        have hfull : ((is.map (depthT d)).take is.length) = (is.map (depthT d)) := by
          rw [show is.length = (is.map (depthT d)).length by simp, List.take_length]
        have HF := Lib.hid (show depthT (d + 1) (.mk thr ns is) = m + 1 by rw [HSM.out, hm.out, hfull])
        clear hfull
        go_wp2_with fail
        go_ret
        exact ⟨by rw [HF.out]; rfl, by have h1 := HB1.out; rw [← hgw.out] at h1; exact bstep h1 hBr.out⟩

set_option maxHeartbeats 4000000 in
theorem pdepth_run (P : Nat → Prop) : ∀ (d : Nat) (T : Tree) (v0 v1 v2 : Value) (w : World), d ≤ 1000 → TAt P d w v0 v1 v2 T →
    Calls Try.prog 52 #[.agg #[v0, v1, v2]] w fun e w' => e = .returned (.int .i64 (depthT d T)) ∧ Below w.heap.size w w' := by
  intro d
  induction d with
  | zero => intro T v0 v1 v2 w hd h; exact h.elim
  | succ d ih =>
    intro T v0 v1 v2 w hd h
    obtain ⟨thr, ns, is⟩ := T
    obtain ⟨A, c, B, c', rfl, rfl, rfl, hn, hi, hbx⟩ := h.boxed
    have HBX := Lib.hid hbx
    have HB1 := Lib.hid (balloc (bref w) (.cells #[.int .i64 thr, .slice A ns.length c, .slice B is.length c'] 41))
    have IH := Lib.hid ih
    have HSM := Lib.hid (show depthT (d + 1) (.mk thr ns is) = ((is.map (depthT d)).foldl max 0) + 1 from rfl)
    have HLE := Lib.hid (fun k => fmax_le (n := d) ((is.map (depthT d)).take k) 0 (Nat.zero_le _) (fun x hx => by obtain ⟨T, _, rfl⟩ := List.mem_map.1 (List.mem_of_mem_take hx); exact depthT_le d T))
    clear h hbx ih
    go_enter Try.func52, Try.ntmps52
    go_upto_region 1 with fail
    generalize w.alloc (.cells #[.int .i64 thr, .slice A ns.length c, .slice B is.length c'] 41) = W1 at *
    generalize hg : w.heap.size = g at *
    have hgw := Lib.hid hg
    clear hg
    have c0 := HBX.out.c1
    have c1 := HBX.out.c2
    go_wp2_with fail
    go_loopw [3, 9] (fun u t wr => ∃ (k m : Nat), k ≤ is.length ∧ t = .int .i64 k ∧ u = .int .i64 (m : Int) ∧ Hid (m = ((is.map (depthT d)).take k).foldl max 0) ∧ Hid (Below W1.heap.size W1 wr)) (fun _ t _ => is.length - (intOf t).toNat)
    case atStart => exact ⟨0, 0, by omega, rfl, rfl, Lib.hid (by simp), Lib.hid (bref _)⟩
    case round =>
      obtain ⟨k, m, hk, rfl, rfl, hm, hBr⟩ := hrel
      have hmd : m ≤ d := by rw [hm.out]; exact HLE.out k
      by_cases hlt : k < is.length
      · obtain ⟨T, hT⟩ : ∃ T, is[k]? = some T := ⟨_, List.getElem?_eq_getElem hlt⟩
        obtain ⟨b, off, t', A', n', ca, B', m', cb, rfl, hlb, e0, e1, e2, hTk⟩ := (HBX.out.below hBr.out).inner k T hT
        have hs' := fmax_take_succ (l := is.map (depthT d)) (k := k) (x := depthT d T) (by rw [List.getElem?_map, hT]; rfl)
        rw [← hm.out] at hs'
        have HS := Lib.hid hs'
        have hdl := depthT_le d T
        have hTr := Lib.hid (hTk.below (balloc (bref wr) (.cells #[.int .i64 t', .slice A' n' ca, .slice B' m' cb] 41)))
        have hBa := Lib.hid (balloc hBr.out (.cells #[.int .i64 t', .slice A' n' ca, .slice B' m' cb] 41))
        clear hT hTk hs'
        generalize hz : depthT d T = z at *
        have HZ := Lib.hid hz
        clear hz
        go_wp2_with fail
        refine (IH.out T _ _ _ _ (by omega) hTr.out).mono ?_
        rintro e w2 ⟨rfl, hb2⟩
        rw [HZ.out]
        have hB2 := Lib.hid (bstep hBa.out hb2)
        clear hb2
        by_cases hmz : (m : Int) < (z : Int)
        · have hx := Lib.hid (show max m z = z by omega)
          go_wp2_with fail
          go_roundw
          case rel => exact ⟨k + 1, z, by omega, by go_num, by go_num, Lib.hid (by rw [HS.out, hx.out]), hB2⟩
          case measure => simp [intOf]; omega
        · have hx := Lib.hid (show max m z = m by omega)
          go_wp2_with fail
          go_roundw
          case rel => exact ⟨k + 1, m, by omega, by go_num, by go_num, Lib.hid (by rw [HS.out, hx.out]), hB2⟩
          case measure => simp [intOf]; omega
      · obtain rfl : k = is.length := by omega
        have hfull : ((is.map (depthT d)).take is.length) = (is.map (depthT d)) := by
          rw [show is.length = (is.map (depthT d)).length by simp, List.take_length]
        have HF := Lib.hid (show depthT (d + 1) (.mk thr ns is) = m + 1 by rw [HSM.out, hm.out, hfull])
        clear hfull
        go_wp2_with fail
        go_ret
        exact ⟨by rw [HF.out]; rfl, by have h1 := HB1.out; rw [← hgw.out] at h1; exact bstep h1 hBr.out⟩

end Go.Proofs.Ytmgiojdipheokaa
