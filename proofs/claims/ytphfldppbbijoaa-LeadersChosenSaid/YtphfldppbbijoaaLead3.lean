/- The contracts of Neighbour, Choose, Leaders, for right arguments. -/
import Derived.Test.YtphfldppbbijoaaLead2
namespace Go.Proofs.Ytphfldppbbijoaa
set_option linter.unusedVariables false
open Go.RowKit

set_option maxHeartbeats 2000000 in
theorem pneighbour_run (n : Int) (hn10 : n ≤ 10) (d : Nat) (hd : d ≤ 4) (P : Nat → Prop) (T : Tree) (v s r x : Int) (v0 v1 v2 : Value) (w : World) (h : TAt P d w v0 v1 v2 T) (hW : WF n d T) (hs : sizeT d T ≤ 200)
    (a0 : 0 ≤ v) (a1 : v < 10) (s0 : 0 ≤ s) (s1 : s ≤ 1000000) (r0 : 1 ≤ r) (r1 : r ≤ 1000) (x0 : 0 ≤ x) (x1 : x < 10) :
    Calls Try.prog 11 #[.agg #[v0, v1, v2], .int .i64 v, .int .i64 s, .int .i64 r, .int .i64 x] w fun e w' => e = .returned (.bool (nbB d T v s r x)) ∧ Below w.heap.size w w' := by
  obtain ⟨t', A', n', ca, B', m', cb, rfl, rfl, rfl⟩ := h.form
  have hb1 : Below w.heap.size w (w.alloc (.cells #[.int .i64 t', .slice A' n' ca, .slice B' m' cb] 27)) := balloc (bref w) _
  have k0 : OutAt (w.alloc (.cells #[.int .i64 t', .slice A' n' ca, .slice B' m' cb] 27)) w.heap.size t' (.slice A' n' ca) (.slice B' m' cb) := alloc_at rfl
  have HT := Lib.hid (h.below hb1)
  have HW := Lib.hid hW
  have HS := Lib.hid hs
  have HB1 := Lib.hid hb1
  have K0 := Lib.hid k0
  clear h hW hs hb1 k0
  go_enter Try.func11, Try.ntmps11
  go_upto_region 1 with fail
  generalize (w.alloc (.cells #[.int .i64 t', .slice A' n' ca, .slice B' m' cb] 27)) = W2 at *
  generalize hg : w.heap.size = g at *
  have HG := Lib.hid hg
  clear hg
  obtain ⟨c0, c1, c2⟩ := K0.out.cs
  go_wp2_with fail
  refine (lcheck_run n hn10 d hd _ T v s r _ _ _ _ HT.out HW.out HS.out a0 a1 s0 s1 r0 r1).mono ?_
  rintro e W3 ⟨rfl, hb3⟩
  have HT3 := Lib.hid (HT.out.below hb3)
  have K03 := K0.out.keep (hb3.block _ K0.out.lt)
  have HB3 := Lib.hid hb3
  clear hb3 c0 c1 c2
  obtain ⟨c0, c1, c2⟩ := K03.cs
  go_wp2_with fail
  refine (lisNode_run x _ x0 x1).mono ?_
  rintro e w2 ⟨rfl, rfl⟩
  go_wp2_with fail
  refine (neighbour_run n hn10 d hd _ T v s r x _ _ _ _ HT3.out HW.out).mono ?_
  rintro e W4 ⟨rfl, hb4⟩
  have HB4 := Lib.hid (bstep HB3.out hb4)
  clear hb4 c0 c1 c2 K03
  go_wp2_with fail
  go_ret
  exact ⟨rfl, by
    have h1 := HB1.out
    rw [← HG.out] at h1
    exact bstep h1 HB4.out⟩

set_option maxHeartbeats 2000000 in
theorem pchoose_run (n : Int) (hn10 : n ≤ 10) (d : Nat) (hd : d ≤ 4) (P : Nat → Prop) (T : Tree) (v s r : Int) (v0 v1 v2 : Value) (w : World) (h : TAt P d w v0 v1 v2 T) (hW : WF n d T) (hs : sizeT d T ≤ 200)
    (a0 : 0 ≤ v) (a1 : v < 10) (s0 : 0 ≤ s) (s1 : s ≤ 1000000) (r0 : 1 ≤ r) (r1 : r ≤ 1000) :
    Calls Try.prog 10 #[.agg #[v0, v1, v2], .int .i64 v, .int .i64 s, .int .i64 r] w fun e w' => e = .returned (.tuple #[.int .i64 (chooseV d T v s r), .int .i64 0]) ∧ Below w.heap.size w w' := by
  obtain ⟨t', A', n', ca, B', m', cb, rfl, rfl, rfl⟩ := h.form
  have hb1 : Below w.heap.size w (w.alloc (.cells #[.int .i64 t', .slice A' n' ca, .slice B' m' cb] 27)) := balloc (bref w) _
  have k0 : OutAt (w.alloc (.cells #[.int .i64 t', .slice A' n' ca, .slice B' m' cb] 27)) w.heap.size t' (.slice A' n' ca) (.slice B' m' cb) := alloc_at rfl
  have HT := Lib.hid (h.below hb1)
  have HW := Lib.hid hW
  have HS := Lib.hid hs
  have HB1 := Lib.hid hb1
  have K0 := Lib.hid k0
  clear h hW hs hb1 k0
  go_enter Try.func10, Try.ntmps10
  go_upto_region 1 with fail
  generalize (w.alloc (.cells #[.int .i64 t', .slice A' n' ca, .slice B' m' cb] 27)) = W2 at *
  generalize hg : w.heap.size = g at *
  have HG := Lib.hid hg
  clear hg
  obtain ⟨c0, c1, c2⟩ := K0.out.cs
  go_wp2_with fail
  refine (lcheck_run n hn10 d hd _ T v s r _ _ _ _ HT.out HW.out HS.out a0 a1 s0 s1 r0 r1).mono ?_
  rintro e W3 ⟨rfl, hb3⟩
  have HT3 := Lib.hid (HT.out.below hb3)
  have K03 := K0.out.keep (hb3.block _ K0.out.lt)
  have HB3 := Lib.hid hb3
  clear hb3 c0 c1 c2
  obtain ⟨c0, c1, c2⟩ := K03.cs
  go_wp2_with fail
  refine (choose_run n hn10 d hd _ T v s r _ _ _ _ HT3.out HW.out).mono ?_
  rintro e W4 ⟨rfl, hb4⟩
  have HB4 := Lib.hid (bstep HB3.out hb4)
  clear hb4 c0 c1 c2 K03
  go_wp2_with fail
  go_ret2
  exact ⟨rfl, by
    have h1 := HB1.out
    rw [← HG.out] at h1
    exact bstep h1 HB4.out⟩

/-- The set of the leaders of the rounds 1 to k. -/
noncomputable def leadV (d : Nat) (T : Tree) (v s : Int) : Nat → Nat
  | 0 => 0
  | k + 1 => leadV d T v s k ||| 2 ^ (chooseV d T v s ((k : Int) + 1)).toNat
theorem leadV_lt (d : Nat) (T : Tree) (v s : Int) (h0 : 0 ≤ v) (h1 : v < 10) : ∀ k, leadV d T v s k < 1024
  | 0 => by unfold leadV; omega
  | k + 1 => by
    have h := chooseV_in d T v s ((k : Int) + 1) h0 h1
    unfold leadV
    exact Nat.or_lt_two_pow (n := 10) (leadV_lt d T v s h0 h1 k) (Nat.pow_lt_pow_right (by omega) (by omega))
end Go.Proofs.Ytphfldppbbijoaa
