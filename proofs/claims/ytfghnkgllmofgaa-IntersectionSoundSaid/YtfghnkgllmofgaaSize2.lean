/- The contracts of Size, Depth and Uses: of the program's and of the reference's. -/
import Derived.Test.YtfghnkgllmofgaaSize
namespace Go.Proofs.Ytfghnkgllmofgaa
set_option linter.unusedVariables false
set_option linter.unusedSimpArgs false
open Go.RowKit

set_option maxHeartbeats 4000000 in
theorem rdepth_run (P : Nat → Prop) : ∀ (d : Nat) (T : Tree) (v0 v1 v2 : Value) (w : World), d ≤ 1000 → TAt P d w v0 v1 v2 T →
    Calls Try.prog 50 #[.agg #[v0, v1, v2]] w fun e w' => e = .returned (.int .i64 (depthT d T)) ∧ Below w.heap.size w w' := by
  intro d
  induction d with
  | zero => intro T v0 v1 v2 w hd h; exact h.elim
  | succ d ih =>
    intro T v0 v1 v2 w hd h
    obtain ⟨thr, ns, is⟩ := T
    obtain ⟨A, c, B, c', rfl, rfl, rfl, hn, hi, hbx⟩ := h.boxed
    have HBX := Lib.hid hbx
    have HB1 := Lib.hid (balloc (bref w) (.cells #[.int .i64 thr, .slice A ns.length c, .slice B is.length c'] 49))
    have IH := Lib.hid ih
    have HSM := Lib.hid (show depthT (d + 1) (.mk thr ns is) = ((is.map (depthT d)).foldl max 0) + 1 from rfl)
    have HLE := Lib.hid (fun k => fmax_le (n := d) ((is.map (depthT d)).take k) 0 (Nat.zero_le _) (fun x hx => by obtain ⟨T, _, rfl⟩ := List.mem_map.1 (List.mem_of_mem_take hx); exact depthT_le d T))
    clear h hbx ih
    go_enter Try.func50, Try.ntmps50
    go_upto_region 1 with fail
    generalize w.alloc (.cells #[.int .i64 thr, .slice A ns.length c, .slice B is.length c'] 49) = W1 at *
    generalize hg : w.heap.size = g at *
    have hgw := Lib.hid hg
    clear hg
    have c0 := HBX.out.c1
    have c1 := HBX.out.c2
    go_wp2_with fail
    go_loopw [3, 9] (fun u t wr => ∃ (k m : Nat), k ≤ is.length ∧ t = .int .i64 k ∧ u = .int .i64 (m : Int) ∧ Hid (m = ((is.map (depthT d)).take k).foldl max 0) ∧ Hid (Below W1.heap.size W1 wr)) (fun _ t _ => is.length - (intOf t).toNat)
    case atStart => exact ⟨0, 0, by omega, rfl, rfl, Lib.hid (by simp), Lib.hid (bref _)⟩
    case round =>
      obtain ⟨k, m, hk, rfl, rfl, hm, hBr⟩ := hrel
      have hmd : m ≤ d := by rw [hm.out]; exact HLE.out k
      by_cases hlt : k < is.length
      · obtain ⟨T, hT⟩ : ∃ T, is[k]? = some T := ⟨_, List.getElem?_eq_getElem hlt⟩
        obtain ⟨b, off, t', A', n', ca, B', m', cb, rfl, hlb, e0, e1, e2, hTk⟩ := (HBX.out.below hBr.out).inner k T hT
        have hs' := fmax_take_succ (l := is.map (depthT d)) (k := k) (x := depthT d T) (by rw [List.getElem?_map, hT]; rfl)
        rw [← hm.out] at hs'
        have HS := Lib.hid hs'
        have hdl := depthT_le d T
        have hTr := Lib.hid (hTk.below (balloc (bref wr) (.cells #[.int .i64 t', .slice A' n' ca, .slice B' m' cb] 49)))
        have hBa := Lib.hid (balloc hBr.out (.cells #[.int .i64 t', .slice A' n' ca, .slice B' m' cb] 49))
        clear hT hTk hs'
        generalize hz : depthT d T = z at *
        have HZ := Lib.hid hz
        clear hz
        go_wp2_with fail
        refine (IH.out T _ _ _ _ (by omega) hTr.out).mono ?_
        rintro e w2 ⟨rfl, hb2⟩
        rw [HZ.out]
        have hB2 := Lib.hid (bstep hBa.out hb2)
        clear hb2
        by_cases hmz : (m : Int) < (z : Int)
        · have hx := Lib.hid (show max m z = z by omega)
          go_wp2_with fail
          go_roundw
          case rel => exact ⟨k + 1, z, by omega, by go_num, by go_num, Lib.hid (by rw [HS.out, hx.out]), hB2⟩
          case measure => simp [intOf]; omega
        · have hx := Lib.hid (show max m z = m by omega)
          go_wp2_with fail
          go_roundw
          case rel => exact ⟨k + 1, m, by omega, by go_num, by go_num, Lib.hid (by rw [HS.out, hx.out]), hB2⟩
          case measure => simp [intOf]; omega
      · obtain rfl : k = is.length := by omega
        have hfull : ((is.map (depthT d)).take is.length) = (is.map (depthT d)) := by
          rw [show is.length = (is.map (depthT d)).length by simp, List.take_length]
        have HF := Lib.hid (show depthT (d + 1) (.mk thr ns is) = m + 1 by rw [HSM.out, hm.out, hfull])
        clear hfull
        go_wp2_with fail
        go_ret
        exact ⟨by rw [HF.out]; rfl, by have h1 := HB1.out; rw [← hgw.out] at h1; exact bstep h1 hBr.out⟩

end Go.Proofs.Ytfghnkgllmofgaa
