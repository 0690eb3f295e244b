/- The contracts of check, choose, Neighbour, Choose, Leaders, for right arguments. -/
import Derived.Test.YtphfldppbbijoaaLead
namespace Go.Proofs.Ytphfldppbbijoaa
set_option linter.unusedVariables false
open Go.RowKit

set_option maxHeartbeats 400000 in
theorem lisNode_run (x : Int) (w : World) (h0 : 0 ≤ x) (h1 : x < 10) : Calls Try.prog 45 #[.int .i64 x] w fun e w' => e = .returned (.bool true) ∧ w = w' := by
  go_enter Try.func45, Try.ntmps45
  go_wp2
  go_ret
  exact ⟨rfl, rfl⟩

set_option maxHeartbeats 400000 in
theorem isRound_run (s r : Int) (w : World) (h0 : 0 ≤ s) (h1 : s ≤ 1000000) (h2 : 1 ≤ r) (h3 : r ≤ 1000) : Calls Try.prog 73 #[.int .i64 s, .int .i64 r] w fun e w' => e = .returned (.bool true) ∧ w = w' := by
  go_enter Try.func73, Try.ntmps73
  go_wp2
  go_ret
  exact ⟨rfl, rfl⟩

set_option maxHeartbeats 2000000 in
theorem lcheck_run (n : Int) (hn10 : n ≤ 10) (d : Nat) (hd : d ≤ 4) (P : Nat → Prop) (T : Tree) (v s r : Int) (v0 v1 v2 : Value) (w : World) (h : TAt P d w v0 v1 v2 T) (hW : WF n d T) (hs : sizeT d T ≤ 200)
    (a0 : 0 ≤ v) (a1 : v < 10) (s0 : 0 ≤ s) (s1 : s ≤ 1000000) (r0 : 1 ≤ r) (r1 : r ≤ 1000) :
    Calls Try.prog 43 #[.agg #[v0, v1, v2], .int .i64 v, .int .i64 s, .int .i64 r] w fun e w' => e = .returned (.int .i64 0) ∧ Below w.heap.size w w' := by
  obtain ⟨t', A', n', ca, B', m', cb, rfl, rfl, rfl⟩ := h.form
  have HT := Lib.hid (h.below (balloc (bref w) (.cells #[.int .i64 t', .slice A' n' ca, .slice B' m' cb] 27)))
  have HW := Lib.hid hW
  have HS := Lib.hid hs
  have HB1 := Lib.hid (balloc (bref w) (.cells #[.int .i64 t', .slice A' n' ca, .slice B' m' cb] 27))
  clear h hW hs
  go_enter Try.func43, Try.ntmps43
  go_wp2_with fail
  refine (pvalid_run n hn10 d hd _ T _ _ _ _ HT.out HW.out HS.out).mono ?_
  rintro e W3 ⟨rfl, hb3⟩
  have HB3 := Lib.hid (bstep HB1.out hb3)
  clear hb3
  go_wp2_with fail
  refine (lisNode_run v _ a0 a1).mono ?_
  rintro e w2 ⟨rfl, rfl⟩
  go_wp2_with fail
  refine (isRound_run s r _ s0 s1 r0 r1).mono ?_
  rintro e w2 ⟨rfl, rfl⟩
  go_wp2_with fail
  go_ret
  exact ⟨rfl, HB3.out⟩

/-- The leader. -/
def chStep (nb : Int → Bool) (pr : Int → Int) (q : Int × Int) (u : Nat) : Int × Int := if nb u = true ∧ q.2 ≤ pr u then ((u : Int), pr u) else q
def chFold (nb : Int → Bool) (pr : Int → Int) (v : Int) (k : Nat) : Int × Int := (List.range k).foldl (chStep nb pr) (v, 0)
theorem chFold_succ (nb : Int → Bool) (pr : Int → Int) (v : Int) (k : Nat) : chFold nb pr v (k + 1) = chStep nb pr (chFold nb pr v k) k := by
  unfold chFold; rw [List.range_succ, List.foldl_append]; rfl
noncomputable def chooseV (d : Nat) (T : Tree) (v s r : Int) : Int := (chFold (nbB d T v s r) (hashV 2 s r) v 10).1
theorem chFold_in (nb : Int → Bool) (pr : Int → Int) (v : Int) (h0 : 0 ≤ v) (h1 : v < 10) : ∀ k, k ≤ 10 → 0 ≤ (chFold nb pr v k).1 ∧ (chFold nb pr v k).1 < 10
  | 0, _ => ⟨h0, h1⟩
  | k + 1, hk => by
    rw [chFold_succ]
    unfold chStep
    split
    · show 0 ≤ (k : Int) ∧ (k : Int) < 10; omega
    · exact chFold_in nb pr v h0 h1 k (by omega)
theorem chooseV_in (d : Nat) (T : Tree) (v s r : Int) (h0 : 0 ≤ v) (h1 : v < 10) : 0 ≤ chooseV d T v s r ∧ chooseV d T v s r < 10 := chFold_in _ _ v h0 h1 10 (Nat.le_refl _)

set_option maxRecDepth 100000 in
set_option maxHeartbeats 4000000 in
theorem choose_run (n : Int) (hn10 : n ≤ 10) (d : Nat) (hd : d ≤ 4) (P : Nat → Prop) (T : Tree) (v s r : Int) (v0 v1 v2 : Value) (w : World) (h : TAt P d w v0 v1 v2 T) (hW : WF n d T) :
    Calls Try.prog 44 #[.agg #[v0, v1, v2], .int .i64 v, .int .i64 s, .int .i64 r] w fun e w' => e = .returned (.int .i64 (chooseV d T v s r)) ∧ Below w.heap.size w w' := by
  obtain ⟨t', A', n', ca, B', m', cb, rfl, rfl, rfl⟩ := h.form
  have hb1 : Below w.heap.size w (w.alloc (.cells #[.int .i64 t', .slice A' n' ca, .slice B' m' cb] 27)) := balloc (bref w) _
  have k0 : OutAt (w.alloc (.cells #[.int .i64 t', .slice A' n' ca, .slice B' m' cb] 27)) w.heap.size t' (.slice A' n' ca) (.slice B' m' cb) := alloc_at rfl
  have HT := Lib.hid (h.below hb1)
  have HW := Lib.hid hW
  have HB1 := Lib.hid hb1
  have K0 := Lib.hid k0
  have HCH := Lib.hid (show chooseV d T v s r = (chFold (nbB d T v s r) (hashV 2 s r) v 10).1 from rfl)
  have HSU := Lib.hid (chFold_succ (nbB d T v s r) (hashV 2 s r) v)
  clear h hW hb1 k0
  go_enter Try.func44, Try.ntmps44
  go_upto_region 1 with fail
  generalize (w.alloc (.cells #[.int .i64 t', .slice A' n' ca, .slice B' m' cb] 27)) = W2 at *
  generalize hg : w.heap.size = g at *
  have HG := Lib.hid hg
  clear hg
  go_wp2_with fail
  go_loopw [9, 10, 14] (fun a b t W => ∃ (k : Nat) (l q : Int), k ≤ 10 ∧ a = .int .i64 l ∧ b = .int .u32 q ∧ t = .int .i64 k ∧ Hid ((l, q) = chFold (nbB d T v s r) (hashV 2 s r) v k) ∧ Hid (Below W2.heap.size W2 W)) (fun _ _ t _ => 10 - (intOf t).toNat)
  case atStart => exact ⟨0, v, 0, by omega, rfl, rfl, rfl, Lib.hid rfl, Lib.hid (bref _)⟩
  case round =>
    obtain ⟨k, l, q, hk, rfl, rfl, rfl, hF, hB⟩ := hrel
    by_cases hlt : k < 10
    · have hK := K0.out.keep (hB.out.block _ K0.out.lt)
      have HT2 := Lib.hid (HT.out.below hB.out)
      obtain ⟨c0, c1, c2⟩ := hK.cs
      clear hK
      have hs := HSU.out k
      rw [← hF.out] at hs
      have HST := Lib.hid (show chFold (nbB d T v s r) (hashV 2 s r) v (k + 1) = if nbB d T v s r k = true ∧ q ≤ hashV 2 s r k then ((k : Int), hashV 2 s r k) else (l, q) from hs)
      clear hs
      go_wp2_with fail
      refine (neighbour_run n hn10 d hd _ T v s r (k : Int) _ _ _ _ HT2.out HW.out).mono ?_
      rintro e W4 ⟨rfl, hb4⟩
      have HB4 := Lib.hid (bstep hB.out hb4)
      clear hb4 c0 c1 c2
      cases hnb : nbB d T v s r (k : Int)
      · rw [hnb, if_neg (by simp)] at HST
        clear hnb
        go_wp2_with fail
        go_roundw
        case rel => exact ⟨k + 1, l, q, by omega, rfl, rfl, by go_num, Lib.hid HST.out.symm, HB4⟩
        case measure => simp [intOf]; omega
      · rw [hnb] at HST
        clear hnb
        go_wp2_with fail
        refine (hash_run _ _ _ _ _).mono ?_
        rintro e W5 ⟨rfl, rfl⟩
        generalize hashV 2 s r (k : Int) = hq at *
        by_cases hle : q ≤ hq
        · rw [if_pos ⟨by simp, hle⟩] at HST
          go_wp2_with fail
          go_roundw
          case rel => exact ⟨k + 1, k, hq, by omega, rfl, rfl, by go_num, Lib.hid HST.out.symm, HB4⟩
          case measure => simp [intOf]; omega
        · rw [if_neg (fun h => hle h.2)] at HST
          go_wp2_with fail
          go_roundw
          case rel => exact ⟨k + 1, l, q, by omega, rfl, rfl, by go_num, Lib.hid HST.out.symm, HB4⟩
          case measure => simp [intOf]; omega
    · obtain rfl : k = 10 := by omega
      rw [← hF.out] at HCH
      go_wp2_with fail
      go_ret
      exact ⟨by rw [HCH.out]; rfl, by
        have h1 := HB1.out
        rw [← HG.out] at h1
        exact bstep h1 hB.out⟩
end Go.Proofs.Ytphfldppbbijoaa
