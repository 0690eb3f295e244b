/- The contracts of the references' Satisfied, Nodes and Declared. -/
import Derived.Test.YthbiopmfbnpmfaaCMade
namespace Go.Proofs.Ythbiopmfbnpmfaa
set_option linter.unusedVariables false
set_option linter.unusedSimpArgs false
open Go.RowKit

set_option maxHeartbeats 4000000 in
theorem rsatT_run (P : Nat → Prop) : ∀ (d : Nat) (T : Tree) (v0 v1 v2 : Value) (s : Int) (w : World), setB s = true → TAt P d w v0 v1 v2 T →
    Calls Try.prog 10 #[.agg #[v0, v1, v2], .int .i64 s] w fun e w' => e = .returned (.bool (holdsT d (hasB s) T)) ∧ Below w.heap.size w w' := by
  intro d
  induction d with
  | zero => intro T v0 v1 v2 s w hs h; exact h.elim
  | succ d ih =>
    intro T v0 v1 v2 s w hs h
    obtain ⟨thr, ns, is⟩ := T
    obtain ⟨A, c, B, c', rfl, rfl, rfl, hn, hi, hbx⟩ := h.boxed
    have HBX := Lib.hid hbx
    have HB1 := Lib.hid (balloc (bref w) (.cells #[.int .i64 thr, .slice A ns.length c, .slice B is.length c'] 27))
    have HD := Lib.hid (show holdsT (d + 1) (hasB s) (.mk thr ns is) = decide (thr ≤ (cnt (hasB s) ns : Int) + (cnt (holdsT d (hasB s)) is : Int)) from by rw [← Int.natCast_add]; rfl)
    have IH := Lib.hid (fun T v0 v1 v2 w => ih T v0 v1 v2 s w hs)
    have hcn := cnt_le (hasB s) ns
    have hci := cnt_le (holdsT d (hasB s)) is
    have HSV := Lib.hid hs
    clear h hbx ih hs
    go_enter Try.func10, Try.ntmps10
    go_upto_region 1 with fail
    generalize w.alloc (.cells #[.int .i64 thr, .slice A ns.length c, .slice B is.length c'] 27) = W1 at *
    generalize hg : w.heap.size = g at *
    have hgw := Lib.hid hg
    clear hg
    have c0 := HBX.out.c0
    have c1 := HBX.out.c1
    have c2 := HBX.out.c2
    have hbl := HBX.out.lt
    go_wp2_with fail
    refine (rsetValid_run _ _).mono ?_
    rintro e w2 ⟨rfl, rfl⟩
    rw [HSV.out]
    go_wp2_with fail
    go_loop [5, 16] (fun u t => ∃ k : Nat, k ≤ ns.length ∧ t = .int .i64 k ∧ u = .int .i64 ((cnt (hasB s) (ns.take k) : Nat) : Int)) (fun _ t => ns.length - (intOf t).toNat)
    case atStart => exact ⟨0, by omega, rfl, rfl⟩
    case round =>
      obtain ⟨k, hk, rfl, rfl⟩ := hrel
      have hle := cnt_take_le (hasB s) ns k
      by_cases hlt : k < ns.length
      · obtain ⟨b, off, rfl, hc⟩ := HBX.out.nodes k hlt
        have hs' := cnt_take_succ (hasB s) ns k (ns.getD k 0) (by rw [List.getD_eq_getElem?_getD, List.getElem?_eq_getElem hlt]; rfl)
        obtain ⟨x, hx⟩ : ∃ x, ns.getD k 0 = x := ⟨_, rfl⟩
        rw [hx] at hc hs'
        clear hx
        cases hv : hasB s x
        all_goals
          rw [hv] at hs'
          have HS := Lib.hid hs'
          clear hs'
          go_wp2_with fail
          refine (rhas_run _ _ _).mono ?_
          rintro e w2 ⟨rfl, rfl⟩
          rw [hv]
          go_wp2_with fail
          go_round
          case rel => exact ⟨k + 1, by omega, by go_num, by rw [HS.out]; first | rfl | (simp)⟩
          case measure => simp [intOf]; omega
      · obtain rfl : k = ns.length := by omega
        have hfull := Lib.hid (cnt_full (hasB s) ns)
        go_wp2_with fail
        go_loopw [5, 29] (fun u t W => ∃ k : Nat, k ≤ is.length ∧ t = .int .i64 k ∧ u = .int .i64 ((cnt (hasB s) ns + cnt (holdsT d (hasB s)) (is.take k) : Nat) : Int) ∧ Hid (Below W1.heap.size W1 W)) (fun _ t _ => is.length - (intOf t).toNat)
        case atStart => exact ⟨0, by omega, rfl, by first | rfl | simp [cnt], Lib.hid (bref _)⟩
        case round =>
          obtain ⟨k, hk, rfl, rfl, hBr⟩ := hrel
          have hle := cnt_take_le (holdsT d (hasB s)) is k
          have hX := Lib.hid (HBX.out.below hBr.out)
          have d0 := hX.out.c0
          by_cases hlt : k < is.length
          · obtain ⟨b, off, t', A', n', ca, B', m', cb, rfl, hlb, e0, e1, e2, hTk⟩ := hX.out.inner k (is[k]) (List.getElem?_eq_getElem hlt)
            have hs' := cnt_take_succ (holdsT d (hasB s)) is k (is[k]) (List.getElem?_eq_getElem hlt)
            have hTr := Lib.hid (hTk.below (balloc (bref wr) (.cells #[.int .i64 t', .slice A' n' ca, .slice B' m' cb] 27)))
            have hBa := Lib.hid (balloc hBr.out (.cells #[.int .i64 t', .slice A' n' ca, .slice B' m' cb] 27))
            clear hTk d0
            generalize is[k] = Tk at *
            cases hv : holdsT d (hasB s) Tk
            all_goals
              rw [hv] at hs'
              have HS := Lib.hid hs'
              clear hs'
              go_wp2_with fail
              refine (IH.out Tk _ _ _ _ hTr.out).mono ?_
              rintro e w2 ⟨rfl, hb2⟩
              rw [hv]
              have hB2 := Lib.hid (bstep hBa.out hb2)
              clear hb2
              go_wp2_with fail
              go_roundw
              case rel => exact ⟨k + 1, by omega, by go_num, by rw [HS.out]; first | rfl | (simp; omega) | simp, hB2⟩
              case measure => simp [intOf]; omega
          · obtain rfl : k = is.length := by omega
            have hful2 := Lib.hid (cnt_full (holdsT d (hasB s)) is)
            by_cases hend : thr ≤ (cnt (hasB s) ns : Int) + (cnt (holdsT d (hasB s)) is : Int)
            all_goals
              go_wp2_with fail
              go_ret
              exact ⟨by rw [HD.out]; simp [hend], by have h1 := HB1.out; rw [← hgw.out] at h1; exact bstep h1 hBr.out⟩

set_option maxHeartbeats 1000000 in
theorem rsat_run (P : Nat → Prop) (d : Nat) (T : Tree) (v0 v1 v2 : Value) (s : Nat) (w : World) (hs : s < 1024) (h : TAt P d w v0 v1 v2 T) :
    Calls Try.prog 10 #[.agg #[v0, v1, v2], .int .i64 (s : Int)] w fun e w' => e = .returned (.bool (satB d T (s : Int))) ∧ Below w.heap.size w w' := by
  have hv : setB (s : Int) = true := setB_iff.2 ⟨by omega, by omega⟩
  refine (rsatT_run P d T v0 v1 v2 (s : Int) w hv h).mono ?_
  rintro e w' ⟨rfl, hb⟩
  exact ⟨by unfold satB; rw [hv]; rfl, hb⟩

/-- The nodes of a set below n, ascending. -/
def nodL (s : Nat) : Nat → List Int
  | 0 => []
  | k + 1 => if s.testBit k then nodL s k ++ [(k : Int)] else nodL s k

theorem nodL_len (s : Nat) : ∀ k, (nodL s k).length ≤ k
  | 0 => by simp [nodL]
  | k + 1 => by
    have := nodL_len s k
    unfold nodL
    split
    · simp; omega
    · omega

theorem nodL_mem (s : Nat) : ∀ (n : Nat) (x : Int), x ∈ nodL s n ↔ ∃ k : Nat, x = (k : Int) ∧ k < n ∧ s.testBit k = true
  | 0, x => by simp [nodL]
  | n + 1, x => by
    have ih := nodL_mem s n x
    unfold nodL
    split
    · rename_i hb
      rw [List.mem_append, ih, List.mem_singleton]
      constructor
      · rintro (⟨k, e, h1, h2⟩ | e)
        · exact ⟨k, e, by omega, h2⟩
        · exact ⟨n, e, by omega, hb⟩
      · rintro ⟨k, e, h1, h2⟩
        rcases Nat.lt_or_ge k n with h3 | h3
        · exact .inl ⟨k, e, h3, h2⟩
        · obtain rfl : k = n := by omega
          exact .inr e
    · rename_i hb
      rw [ih]
      constructor
      · rintro ⟨k, e, h1, h2⟩; exact ⟨k, e, by omega, h2⟩
      · rintro ⟨k, e, h1, h2⟩
        refine ⟨k, e, ?_, h2⟩
        rcases Nat.lt_or_ge k n with h3 | h3
        · exact h3
        · obtain rfl : k = n := by omega
          exact (hb h2).elim

end Go.Proofs.Ythbiopmfbnpmfaa
