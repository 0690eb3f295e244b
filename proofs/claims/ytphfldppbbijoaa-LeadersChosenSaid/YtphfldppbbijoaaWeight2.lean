/- The contracts of leaders.weight and leaders.Weight. -/
import Derived.Test.YtphfldppbbijoaaWeight
namespace Go.Proofs.Ytphfldppbbijoaa
set_option linter.unusedVariables false
open Go.RowKit

/-- What weight is to return. -/
def WeightC (n : Int) (d : Nat) : Prop := ∀ (P : Nat → Prop) (T : Tree) (x : Int) (v0 v1 v2 : Value) (w : World), TAt P d w v0 v1 v2 T → WF n d T →
    Calls Try.prog 74 #[.agg #[v0, v1, v2], .int .i64 x] w fun e w' => e = .returned (.tuple #[fracV (weightT d T x), .bool (weightT d T x).isSome]) ∧ Below w.heap.size w w'

set_option maxRecDepth 100000 in
set_option maxHeartbeats 4000000 in
theorem weight_run (n : Int) (hn10 : n ≤ 10) : ∀ d, d ≤ 4 → WeightC n d := by
  intro d
  induction d with
  | zero => intro _ P T x v0 v1 v2 w h; exact h.elim
  | succ d ih =>
    intro hd P T x v0 v1 v2 w h hW
    obtain ⟨thr, ns, is⟩ := T
    obtain ⟨A, c, B, c', rfl, rfl, rfl, hn, hi, hbx⟩ := h.boxed
    have hW0 := hW
    obtain ⟨ht0, ht1, hl5, hl3, hr, hnd, hWi⟩ := hW
    have hthr : thr ≤ (ns.length : Int) + (is.length : Int) := by push_cast at ht1; exact ht1
    have hb3 : Below w.heap.size w (((w.alloc (.cells #[.int .i64 thr, .slice A ns.length c, .slice B is.length c'] 27)).alloc (.cells #[.int .i64 0, .int .i64 0] 78)).alloc (.cells #[.int .i64 thr, .int .i64 ((ns.length : Int) + (is.length : Int))] 78)) := balloc (balloc (balloc (bref w) _) _) _
    have hbx3 := hbx.below (balloc (balloc (bref _) (.cells #[.int .i64 0, .int .i64 0] 78)) (.cells #[.int .i64 thr, .int .i64 ((ns.length : Int) + (is.length : Int))] 78))
    have k1 : FracAt (((w.alloc (.cells #[.int .i64 thr, .slice A ns.length c, .slice B is.length c'] 27)).alloc (.cells #[.int .i64 0, .int .i64 0] 78)).alloc (.cells #[.int .i64 thr, .int .i64 ((ns.length : Int) + (is.length : Int))] 78)) (w.heap.size + 1) 0 0 := alloc_on (alloc_at (alloc_sz _ _))
    have k2 : FracAt (((w.alloc (.cells #[.int .i64 thr, .slice A ns.length c, .slice B is.length c'] 27)).alloc (.cells #[.int .i64 0, .int .i64 0] 78)).alloc (.cells #[.int .i64 thr, .int .i64 ((ns.length : Int) + (is.length : Int))] 78)) (w.heap.size + 2) thr ((ns.length : Int) + (is.length : Int)) := alloc_at (by rw [alloc_sz, alloc_sz])
    have HBX := Lib.hid hbx3
    have HB := Lib.hid hb3
    have K1 := Lib.hid k1
    have K2 := Lib.hid k2
    have IH := Lib.hid (ih (by omega))
    have HWI := Lib.hid hWi
    have HBD := Lib.hid (fun p => weightT_bound (x := x) (d + 1) (.mk thr ns is) hW0 p)
    have HD8 := Lib.hid (show (8 : Nat) ^ (d + 1) ≤ 8 ^ 4 from Nat.pow_le_pow_right (by omega) (by omega))
    have HWD := Lib.hid (show weightT (d + 1) (.mk thr ns is) x = if x ∈ ns then some (thr, (ns.length : Int) + (is.length : Int)) else (is.findSome? (fun T => weightT d T x)).map fun p => (thr * p.1, ((ns.length : Int) + (is.length : Int)) * p.2) from rfl)
    clear h hbx hbx3 ih hr hnd hWi ht1 hW0 hb3 k1 k2
    go_enter Try.func74, Try.ntmps74
    go_upto_region 2 with fail
    generalize (((w.alloc (.cells #[.int .i64 thr, .slice A ns.length c, .slice B is.length c'] 27)).alloc (.cells #[.int .i64 0, .int .i64 0] 78)).alloc (.cells #[.int .i64 thr, .int .i64 ((ns.length : Int) + (is.length : Int))] 78)) = W1 at *
    generalize hg : w.heap.size = g at *
    have hgw := Lib.hid hg
    clear hg
    have c0 := HBX.out.c0
    have c1 := HBX.out.c1
    have c2 := HBX.out.c2
    obtain ⟨s0, s1⟩ := K2.out.cs
    have hgl := HBX.out.lt
    have f0 := K1.out.fr 0
    have f1 := K1.out.fr 1
    go_wp2_with fail
    refine (containsInt_run A c ns x _ hn HBX.out.nodes).mono ?_
    rintro e w2 ⟨rfl, rfl⟩
    obtain ⟨z0, z1⟩ := K1.out.cs
    by_cases hx : x ∈ ns
    · rw [decide_eq_true hx]
      rw [if_pos hx] at HWD
      have hset := K1.out.set thr ((ns.length : Int) + (is.length : Int))
      obtain ⟨r0, r1⟩ := hset.cs
      go_wp2_with fail
      refine bodyPost_ret (v := .tuple #[.agg #[.int .i64 thr, .int .i64 ((ns.length : Int) + (is.length : Int))], .bool true]) ?_ rfl ⟨by rw [HWD.out]; rfl, ?_⟩
      · simp [results, Try.results74, go_sem, r0, r1]
      · have h1 := HB.out
        rw [← hgw.out] at h1
        exact bset (bset h1 (p := ⟨g + 1, 0, none⟩) (by rw [hgw.out]; simp) _) (p := ⟨g + 1, 1, none⟩) (by rw [hgw.out]; simp) _
    · rw [decide_eq_false hx]
      rw [if_neg hx] at HWD
      clear s0 s1 f0 f1 z0 z1 c0
      go_wp2_with fail
      go_loopw [29] (fun t wr => ∃ (k : Nat), k ≤ is.length ∧ t = .int .i64 k ∧ Hid (∀ U ∈ is.take k, weightT d U x = none) ∧ Hid (Below W1.heap.size W1 wr)) (fun t _ => is.length - (intOf t).toNat)
      case atStart => exact ⟨0, by omega, rfl, Lib.hid (by simp), Lib.hid (bref _)⟩
      case round =>
        obtain ⟨k, hk, rfl, hNo, hBr⟩ := hrel
        by_cases hlt : k < is.length
        · obtain ⟨T, hT⟩ : ∃ T, is[k]? = some T := ⟨_, List.getElem?_eq_getElem hlt⟩
          obtain ⟨b, off, t', A', n', ca, B', m', cb, rfl, hlb, e0, e1, e2, hTk⟩ := (HBX.out.below hBr.out).inner k T hT
          have hWT := Lib.hid (HWI.out T (List.mem_of_getElem? hT))
          have hTr := Lib.hid (hTk.below (balloc (bref wr) (.cells #[.int .i64 t', .slice A' n' ca, .slice B' m' cb] 27)))
          have hBa := Lib.hid (balloc hBr.out (.cells #[.int .i64 t', .slice A' n' ca, .slice B' m' cb] 27))
          have HT := Lib.hid hT
          clear hTk hT
          go_wp2_with fail
          refine (IH.out _ T x _ _ _ _ hTr.out hWT.out).mono ?_
          rintro e w2 ⟨rfl, hb2⟩
          have hB2 := Lib.hid (bstep hBa.out hb2)
          clear hb2
          cases hw : weightT d T x with
          | none =>
            have hN2 := Lib.hid (show ∀ U ∈ is.take (k + 1), weightT d U x = none by
              intro U hU
              rw [List.take_add_one, HT.out] at hU
              rcases List.mem_append.1 hU with h1 | h1
              · exact hNo.out U h1
              · simp only [Option.toList_some, List.mem_singleton] at h1
                rw [h1]; exact hw)
            clear hw
            simp only [fracV, Option.isSome_none]
            go_wp2_with fail
            go_roundw
            case rel => exact ⟨k + 1, by omega, by go_num, hN2, Lib.hid (balloc hB2.out _)⟩
            case measure => simp [intOf]; omega
          | some p =>
            obtain ⟨a, b'⟩ := p
            have hfs := findSome_at (f := fun T => weightT d T x) hNo.out HT.out hw
            have hwd := HWD.out
            rw [hfs] at hwd
            replace hwd : weightT (d + 1) (.mk thr ns is) x = some (thr * a, ((ns.length : Int) + (is.length : Int)) * b') := hwd
            obtain ⟨p1, p2, p3⟩ := HBD.out _ hwd
            have hp8 := HD8.out
            have hp9 : (((8 : Nat) ^ (d + 1) : Nat) : Int) ≤ 4096 := by
              have : (8 : Nat) ^ (d + 1) ≤ 4096 := hp8
              exact_mod_cast this
            generalize (((8 : Nat) ^ (d + 1) : Nat) : Int) = e8 at *
            dsimp only at p1 p2 p3
            have HWD2 := Lib.hid hwd
            have w1 : IntKind.i64.wrap (thr * a) = thr * a := IntWalk.i64_in _ (by omega)
            have w3 : IntKind.i64.wrap (((ns.length : Int) + (is.length : Int)) * b') = ((ns.length : Int) + (is.length : Int)) * b' := IntWalk.i64_in _ (by omega)
            have HB9 := Lib.hid (balloc hB2.out (.cells #[.int .i64 a, .int .i64 b'] 78))
            have hnew : FracAt (w2.alloc (.cells #[.int .i64 a, .int .i64 b'] 78)) w2.heap.size a b' := alloc_at rfl
            clear hfs hwd hw
            simp only [fracV, Option.isSome_some]
            go_upto_region 9 with fail
            generalize w2.alloc (.cells #[.int .i64 a, .int .i64 b'] 78) = W5 at *
            generalize w2.heap.size = g5 at *
            have K1' := K1.out.keep (HB9.out.block _ K1.out.lt)
            have K2' := K2.out.keep (HB9.out.block _ K2.out.lt)
            obtain ⟨z0, z1⟩ := K1'.cs
            obtain ⟨q0, q1⟩ := K2'.cs
            obtain ⟨m0, m1⟩ := hnew.cs
            have f0 := K1'.fr 0
            have f1 := K1'.fr 1
            have hset := K1'.set (thr * a) (((ns.length : Int) + (is.length : Int)) * b')
            obtain ⟨r0, r1⟩ := hset.cs
            clear K1' K2' hnew hset
            go_wp2_with fail
            refine bodyPost_ret (v := .tuple #[.agg #[.int .i64 (thr * a), .int .i64 (((ns.length : Int) + (is.length : Int)) * b')], .bool true]) ?_ rfl ⟨by rw [HWD2.out]; rfl, ?_⟩
            · simp [results, Try.results74, go_sem, r0, r1]
            · have h1 := HB.out
              rw [← hgw.out] at h1
              exact bset (bset (bstep h1 HB9.out) (p := ⟨g + 1, 0, none⟩) (by rw [hgw.out]; simp) _) (p := ⟨g + 1, 1, none⟩) (by rw [hgw.out]; simp) _
        · obtain rfl : k = is.length := by omega
          have hnone : is.findSome? (fun T => weightT d T x) = none := List.findSome?_eq_none_iff.2 (by
            have h1 := hNo.out
            rwa [List.take_length] at h1)
          rw [hnone] at HWD
          have K1' := K1.out.keep (hBr.out.block _ K1.out.lt)
          obtain ⟨z0, z1⟩ := K1'.cs
          have f0 := K1'.fr 0
          have f1 := K1'.fr 1
          have hset := K1'.set 0 0
          obtain ⟨r0, r1⟩ := hset.cs
          clear hnone K1' hset
          go_wp2_with fail
          refine bodyPost_ret (v := .tuple #[.agg #[.int .i64 0, .int .i64 0], .bool false]) ?_ rfl ⟨by rw [HWD.out]; rfl, ?_⟩
          · simp [results, Try.results74, go_sem, r0, r1]
          · have h1 := HB.out
            rw [← hgw.out] at h1
            exact bset (bset (bstep h1 hBr.out) (p := ⟨g + 1, 0, none⟩) (by rw [hgw.out]; simp) _) (p := ⟨g + 1, 1, none⟩) (by rw [hgw.out]; simp) _

set_option maxHeartbeats 2000000 in
theorem pweight_run (n : Int) (hn10 : n ≤ 10) (d : Nat) (hd : d ≤ 4) (P : Nat → Prop) (T : Tree) (x : Int) (v0 v1 v2 : Value) (w : World) (h : TAt P d w v0 v1 v2 T) (hW : WF n d T) (hs : sizeT d T ≤ 200) :
    Calls Try.prog 48 #[.agg #[v0, v1, v2], .int .i64 x] w fun e w' => e = .returned (.tuple #[fracV (weightT d T x), .bool (weightT d T x).isSome]) ∧ Below w.heap.size w w' := by
  obtain ⟨t', A', n', ca, B', m', cb, rfl, rfl, rfl⟩ := h.form
  have hb2 : Below w.heap.size w ((w.alloc (.cells #[.int .i64 t', .slice A' n' ca, .slice B' m' cb] 27)).alloc (.cells #[.int .i64 0, .int .i64 0] 78)) := balloc (balloc (bref w) _) _
  have k0 : OutAt ((w.alloc (.cells #[.int .i64 t', .slice A' n' ca, .slice B' m' cb] 27)).alloc (.cells #[.int .i64 0, .int .i64 0] 78)) w.heap.size t' (.slice A' n' ca) (.slice B' m' cb) := alloc_on (alloc_at rfl)
  have k1 : FracAt ((w.alloc (.cells #[.int .i64 t', .slice A' n' ca, .slice B' m' cb] 27)).alloc (.cells #[.int .i64 0, .int .i64 0] 78)) (w.heap.size + 1) 0 0 := alloc_at (alloc_sz _ _)
  have HT := Lib.hid (h.below hb2)
  have HW := Lib.hid hW
  have HS := Lib.hid hs
  have HB2 := Lib.hid hb2
  have K0 := Lib.hid k0
  have K1 := Lib.hid k1
  clear h hW hb2 k0 k1 hs
  go_enter Try.func48, Try.ntmps48
  go_upto_region 1 with fail
  generalize ((w.alloc (.cells #[.int .i64 t', .slice A' n' ca, .slice B' m' cb] 27)).alloc (.cells #[.int .i64 0, .int .i64 0] 78)) = W2 at *
  generalize hg : w.heap.size = g at *
  have HG := Lib.hid hg
  clear hg
  obtain ⟨c0, c1, c2⟩ := K0.out.cs
  go_wp2_with fail
  refine (pvalid_run n hn10 d hd _ T _ _ _ _ HT.out HW.out HS.out).mono ?_
  rintro e W3 ⟨rfl, hb3⟩
  have HT3 := Lib.hid (HT.out.below hb3)
  have K03 := K0.out.keep (hb3.block _ K0.out.lt)
  have K13 := Lib.hid (K1.out.keep (hb3.block _ K1.out.lt))
  have HB3 := Lib.hid hb3
  clear hb3 c0 c1 c2
  obtain ⟨c0, c1, c2⟩ := K03.cs
  go_wp2_with fail
  refine (weight_run n hn10 d hd _ T x _ _ _ _ HT3.out HW.out).mono ?_
  rintro e W4 ⟨rfl, hb4⟩
  have K14 := K13.out.keep (hb4.block _ K13.out.lt)
  have HB4 := Lib.hid (bstep HB3.out hb4)
  clear hb4 c0 c1 c2 K03
  obtain ⟨z0, z1⟩ := K14.cs
  have f0 := K14.fr 0
  have f1 := K14.fr 1
  cases hw : weightT d T x with
  | none =>
    have hset := K14.set 0 0
    obtain ⟨r0, r1⟩ := hset.cs
    clear hset K14
    simp only [fracV, Option.isSome_none]
    go_wp2_with fail
    refine bodyPost_ret (v := .tuple #[.agg #[.int .i64 0, .int .i64 0], .bool false]) ?_ rfl ⟨by rw [hw]; rfl, ?_⟩
    · simp [results, Try.results48, go_sem, r0, r1]
    · have h1 := HB2.out
      rw [← HG.out] at h1
      exact bset (bset (bstep h1 HB4.out) (p := ⟨g + 1, 0, none⟩) (by rw [HG.out]; simp) _) (p := ⟨g + 1, 1, none⟩) (by rw [HG.out]; simp) _
  | some p =>
    have hset := K14.set p.1 p.2
    obtain ⟨r0, r1⟩ := hset.cs
    clear hset K14
    simp only [fracV, Option.isSome_some]
    go_wp2_with fail
    refine bodyPost_ret (v := .tuple #[.agg #[.int .i64 p.1, .int .i64 p.2], .bool true]) ?_ rfl ⟨by rw [hw]; rfl, ?_⟩
    · simp [results, Try.results48, go_sem, r0, r1]
    · have h1 := HB2.out
      rw [← HG.out] at h1
      exact bset (bset (bstep h1 HB4.out) (p := ⟨g + 1, 0, none⟩) (by rw [HG.out]; simp) _) (p := ⟨g + 1, 1, none⟩) (by rw [HG.out]; simp) _
end Go.Proofs.Ytphfldppbbijoaa
