/- The contracts of Hash, neighbour, choose, check, Neighbour, Choose, Leaders. -/
import Derived.Test.YtphfldppbbijoaaAwake21
import Derived.BigQuiet
namespace Go.Proofs.Ytphfldppbbijoaa
set_option linter.unusedVariables false
open Go.RowKit

/-- The hash. -/
def hz0 (k s r x : Int) : Int := bits .xor .u64 (bits .xor .u64 (bits .xor .u64 (IntKind.u64.wrap (IntKind.u64.wrap k * 72057594037927936)) (IntKind.u64.wrap (IntKind.u64.wrap s * 16777216))) (IntKind.u64.wrap (IntKind.u64.wrap r * 256))) (IntKind.u64.wrap x)
def hz1 (z : Int) : Int := IntKind.u64.wrap (z + 11400714819323198485)
def hz2 (z : Int) : Int := IntKind.u64.wrap (bits .xor .u64 z (z / 1073741824) * 13787848793156543929)
def hz3 (z : Int) : Int := IntKind.u64.wrap (bits .xor .u64 z (z / 134217728) * 10723151780598845931)
def hz4 (z : Int) : Int := bits .xor .u64 z (z / 2147483648)
def hashX (k s r x : Int) : Int := hz4 (hz3 (hz2 (hz1 (hz0 k s r x)))) / 4294967296 % 4294967296
theorem hashX_bound (k s r x : Int) : 0 ≤ hashX k s r x ∧ hashX k s r x < 4294967296 := by
  unfold hashX
  omega

set_option maxHeartbeats 1000000 in
theorem hashX_run (k s r x : Int) (w : World) : Calls Try.prog 14 #[.int .i64 k, .int .i64 s, .int .i64 r, .int .i64 x] w fun e w' => e = .returned (.int .u32 (hashX k s r x)) ∧ w = w' := by
  go_enter Try.func14, Try.ntmps14
  go_wp2_with fail
  unfold hashX hz4 hz3 hz2 hz1 hz0
  go_ret
  exact ⟨rfl, rfl⟩

/-- The hash, of which nothing but its bounds is used. -/
theorem hash_ex : ∃ h : Int → Int → Int → Int → Int, (∀ k s r x, 0 ≤ h k s r x ∧ h k s r x < 4294967296) ∧ ∀ k s r x w, Calls Try.prog 14 #[.int .i64 k, .int .i64 s, .int .i64 r, .int .i64 x] w fun e w' => e = .returned (.int .u32 (h k s r x)) ∧ w = w' :=
  ⟨hashX, hashX_bound, hashX_run⟩
noncomputable def hashV : Int → Int → Int → Int → Int := Classical.choose hash_ex
theorem hashV_bound (k s r x : Int) : 0 ≤ hashV k s r x ∧ hashV k s r x < 4294967296 := (Classical.choose_spec hash_ex).1 k s r x
theorem hash_run (k s r x : Int) (w : World) : Calls Try.prog 14 #[.int .i64 k, .int .i64 s, .int .i64 r, .int .i64 x] w fun e w' => e = .returned (.int .u32 (hashV k s r x)) ∧ w = w' := (Classical.choose_spec hash_ex).2 k s r x w

/-- Is the node a neighbour? -/
noncomputable def nbB (d : Nat) (T : Tree) (v s r x : Int) : Bool := if x = v then true else match weightT d T x with | none => false | some p => decide (hashV 1 s r x * p.2 < p.1 * 4294967296)

set_option maxRecDepth 100000 in
set_option maxHeartbeats 4000000 in
theorem neighbour_run (n : Int) (hn10 : n ≤ 10) (d : Nat) (hd : d ≤ 4) (P : Nat → Prop) (T : Tree) (v s r x : Int) (v0 v1 v2 : Value) (w : World) (h : TAt P d w v0 v1 v2 T) (hW : WF n d T) :
    Calls Try.prog 46 #[.agg #[v0, v1, v2], .int .i64 v, .int .i64 s, .int .i64 r, .int .i64 x] w fun e w' => e = .returned (.bool (nbB d T v s r x)) ∧ Below w.heap.size w w' := by
  obtain ⟨t', A', n', ca, B', m', cb, rfl, rfl, rfl⟩ := h.form
  have hb1 : Below w.heap.size w (w.alloc (.cells #[.int .i64 t', .slice A' n' ca, .slice B' m' cb] 27)) := balloc (bref w) _
  have k0 : OutAt (w.alloc (.cells #[.int .i64 t', .slice A' n' ca, .slice B' m' cb] 27)) w.heap.size t' (.slice A' n' ca) (.slice B' m' cb) := alloc_at rfl
  have HT := Lib.hid (h.below hb1)
  have HW := Lib.hid hW
  have HB1 := Lib.hid hb1
  have K0 := Lib.hid k0
  clear h hW hb1 k0
  go_enter Try.func46, Try.ntmps46
  go_upto_region 1 with fail
  generalize (w.alloc (.cells #[.int .i64 t', .slice A' n' ca, .slice B' m' cb] 27)) = W2 at *
  generalize hg : w.heap.size = g at *
  have HG := Lib.hid hg
  clear hg
  obtain ⟨c0, c1, c2⟩ := K0.out.cs
  by_cases hx : x = v
  · have HN := Lib.hid (show nbB d T v s r x = true by unfold nbB; rw [if_pos hx])
    subst hx
    go_wp2_with fail
    go_ret
    exact ⟨by rw [HN.out]; rfl, by rw [HG.out]; exact HB1.out⟩
  · have HN := Lib.hid (show nbB d T v s r x = match weightT d T x with | none => false | some p => decide (hashV 1 s r x * p.2 < p.1 * 4294967296) by unfold nbB; rw [if_neg hx])
    go_wp2_with fail
    refine (weight_run n hn10 d hd _ T x _ _ _ _ HT.out HW.out).mono ?_
    rintro e W4 ⟨rfl, hb4⟩
    have HB4 : Hid (Below w.heap.size w W4) := Lib.hid (by
      have h1 := HB1.out
      rw [← HG.out] at h1
      exact bstep h1 hb4)
    have HWB := Lib.hid (fun p => weightT_bound (x := x) d T HW.out p)
    have HH := Lib.hid (hashV_bound 1 s r x)
    clear hb4 c0 c1 c2
    cases hw : weightT d T x with
    | none =>
      rw [hw] at HN
      clear hw
      simp only [fracV, Option.isSome_none]
      go_upto_region 4 with fail
      have HB5 := Lib.hid (balloc HB4.out (.cells #[.int .i64 0, .int .i64 0] 78))
      generalize W4.alloc (.cells #[.int .i64 0, .int .i64 0] 78) = W5 at *
      generalize W4.heap.size = g5 at *
      go_wp2_with fail
      go_quiet (fail)
      go_wp2_with fail
      go_ret
      exact ⟨by rw [HN.out]; rfl, bdrewN HB5.out _⟩
    | some p =>
      obtain ⟨a, b⟩ := p
      obtain ⟨b1, b2, b3⟩ := HWB.out _ hw
      obtain ⟨h1, h2⟩ := HH.out
      rw [hw] at HN
      clear hw
      simp only [fracV, Option.isSome_some] at b1 b2 b3 ⊢
      have hp8 : (8 : Nat) ^ d ≤ 4096 := Nat.le_trans (Nat.pow_le_pow_right (by omega) hd) (by decide)
      have hp9 : (((8 : Nat) ^ d : Nat) : Int) ≤ 4096 := by exact_mod_cast hp8
      have m0 : 0 ≤ hashV 1 s r x * b := Int.mul_nonneg h1 (by omega)
      have m1 : hashV 1 s r x * b ≤ 4294967295 * 4096 := Int.mul_le_mul (by omega) (by omega) (by omega) (by omega)
      have e1 : IntKind.u64.wrap a = a := by rw [IntKind.wrap_u64]; omega
      have e2 : IntKind.u64.wrap b = b := by rw [IntKind.wrap_u64]; omega
      have e3 : IntKind.u64.wrap (hashV 1 s r x * b) = hashV 1 s r x * b := by rw [IntKind.wrap_u64]; omega
      have e4 : IntKind.u64.wrap (a * 4294967296) = a * 4294967296 := by rw [IntKind.wrap_u64]; omega
      have e5 : IntKind.u64.wrap (hashV 1 s r x) = hashV 1 s r x := by rw [IntKind.wrap_u64]; omega
      clear hp8 hp9 b3
      go_upto_region 4 with fail
      have HB5 := Lib.hid (balloc HB4.out (.cells #[.int .i64 a, .int .i64 b] 78))
      have HF5 := Lib.hid (show FracAt (W4.alloc (.cells #[.int .i64 a, .int .i64 b] 78)) W4.heap.size a b from alloc_at rfl)
      generalize W4.alloc (.cells #[.int .i64 a, .int .i64 b] 78) = W5 at *
      generalize W4.heap.size = g5 at *
      obtain ⟨d0, d1⟩ := HF5.out.cs
      go_wp2_with fail
      go_quiet ((go_at_call 14; exact (hash_run _ _ _ _ _).mono (by rintro e w2 ⟨rfl, rfl⟩; exact ⟨rfl, _, rfl⟩)))
      go_wp2_with fail
      go_ret
      exact ⟨by rw [HN.out]; rfl, bdrewN HB5.out _⟩
end Go.Proofs.Ytphfldppbbijoaa
