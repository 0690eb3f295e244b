/- The contracts of the references' Satisfied, Nodes and Declared. -/
import Derived.Test.YtfghnkgllmofgaaCMade
namespace Go.Proofs.Ytfghnkgllmofgaa
set_option linter.unusedVariables false
set_option linter.unusedSimpArgs false
open Go.RowKit

set_option maxHeartbeats 4000000 in
theorem rsatT_run (P : Nat → Prop) : ∀ (d : Nat) (T : Tree) (v0 v1 v2 : Value) (s : Int) (w : World), setB s = true → TAt P d w v0 v1 v2 T →
    Calls Try.prog 61 #[.agg #[v0, v1, v2], .int .i64 s] w fun e w' => e = .returned (.bool (holdsT d (hasB s) T)) ∧ Below w.heap.size w w' := by
  intro d
  induction d with
  | zero => intro T v0 v1 v2 s w hs h; exact h.elim
  | succ d ih =>
    intro T v0 v1 v2 s w hs h
    obtain ⟨thr, ns, is⟩ := T
    obtain ⟨A, c, B, c', rfl, rfl, rfl, hn, hi, hbx⟩ := h.boxed
    have HBX := Lib.hid hbx
    have HB1 := Lib.hid (balloc (bref w) (.cells #[.int .i64 thr, .slice A ns.length c, .slice B is.length c'] 49))
    have HD := Lib.hid (show holdsT (d + 1) (hasB s) (.mk thr ns is) = decide (thr ≤ (cnt (hasB s) ns : Int) + (cnt (holdsT d (hasB s)) is : Int)) from by rw [← Int.natCast_add]; rfl)
    have IH := Lib.hid (fun T v0 v1 v2 w => ih T v0 v1 v2 s w hs)
    have hcn := cnt_le (hasB s) ns
    have hci := cnt_le (holdsT d (hasB s)) is
    have HSV := Lib.hid hs
    clear h hbx ih hs
    go_enter Try.func61, Try.ntmps61
    go_upto_region 1 with fail
    generalize w.alloc (.cells #[.int .i64 thr, .slice A ns.length c, .slice B is.length c'] 49) = W1 at *
    generalize hg : w.heap.size = g at *
    have hgw := Lib.hid hg
    clear hg
    have c0 := HBX.out.c0
    have c1 := HBX.out.c1
    have c2 := HBX.out.c2
    have hbl := HBX.out.lt
    go_wp2_with fail
    refine (rsetValid_run _ _).mono ?_
    rintro e w2 ⟨rfl, rfl⟩
    rw [HSV.out]
    go_wp2_with fail
    go_loop [5, 16] (fun u t => ∃ k : Nat, k ≤ ns.length ∧ t = .int .i64 k ∧ u = .int .i64 ((cnt (hasB s) (ns.take k) : Nat) : Int)) (fun _ t => ns.length - (intOf t).toNat)
    case atStart => exact ⟨0, by omega, rfl, rfl⟩
    case round =>
      obtain ⟨k, hk, rfl, rfl⟩ := hrel
      have hle := cnt_take_le (hasB s) ns k
      by_cases hlt : k < ns.length
      · obtain ⟨b, off, rfl, hc⟩ := HBX.out.nodes k hlt
        have hs' := cnt_take_succ (hasB s) ns k (ns.getD k 0) (by rw [List.getD_eq_getElem?_getD, List.getElem?_eq_getElem hlt]; rfl)
        obtain ⟨x, hx⟩ : ∃ x, ns.getD k 0 = x := ⟨_, rfl⟩
        rw [hx] at hc hs'
        clear hx
        cases hv : hasB s x
        all_goals
          rw [hv] at hs'
          have HS := Lib.hid hs'
          clear hs'
          go_wp2_with fail
          refine (rhas_run _ _ _).mono ?_
          rintro e w2 ⟨rfl, rfl⟩
          rw [hv]
          go_wp2_with fail
          go_round
          case rel => exact ⟨k + 1, by omega, by go_num, by rw [HS.out]; first | rfl | (simp)⟩
          case measure => simp [intOf]; omega
      · obtain rfl : k = ns.length := by omega
        have hfull := Lib.hid (cnt_full (hasB s) ns)
        go_wp2_with fail
        go_loopw [5, 29] (fun u t W => ∃ k : Nat, k ≤ is.length ∧ t = .int .i64 k ∧ u = .int .i64 ((cnt (hasB s) ns + cnt (holdsT d (hasB s)) (is.take k) : Nat) : Int) ∧ Hid (Below W1.heap.size W1 W)) (fun _ t _ => is.length - (intOf t).toNat)
        case atStart => exact ⟨0, by omega, rfl, by first | rfl | simp [cnt], Lib.hid (bref _)⟩
        case round =>
          obtain ⟨k, hk, rfl, rfl, hBr⟩ := hrel
          have hle := cnt_take_le (holdsT d (hasB s)) is k
          have hX := Lib.hid (HBX.out.below hBr.out)
          have d0 := hX.out.c0
          by_cases hlt : k < is.length
          · obtain ⟨b, off, t', A', n', ca, B', m', cb, rfl, hlb, e0, e1, e2, hTk⟩ := hX.out.inner k (is[k]) (List.getElem?_eq_getElem hlt)
            have hs' := cnt_take_succ (holdsT d (hasB s)) is k (is[k]) (List.getElem?_eq_getElem hlt)
            have hTr := Lib.hid (hTk.below (balloc (bref wr) (.cells #[.int .i64 t', .slice A' n' ca, .slice B' m' cb] 49)))
            have hBa := Lib.hid (balloc hBr.out (.cells #[.int .i64 t', .slice A' n' ca, .slice B' m' cb] 49))
            clear hTk d0
            generalize is[k] = Tk at *
            cases hv : holdsT d (hasB s) Tk
            all_goals
              rw [hv] at hs'
              have HS := Lib.hid hs'
              clear hs'
              go_wp2_with fail
              refine (IH.out Tk _ _ _ _ hTr.out).mono ?_
              rintro e w2 ⟨rfl, hb2⟩
              rw [hv]
              have hB2 := Lib.hid (bstep hBa.out hb2)
              clear hb2
              go_wp2_with fail
              go_roundw
              case rel => exact ⟨k + 1, by omega, by go_num, by rw [HS.out]; first | rfl | (simp; omega) | simp, hB2⟩
              case measure => simp [intOf]; omega
          · obtain rfl : k = is.length := by omega
            have hful2 := Lib.hid (cnt_full (holdsT d (hasB s)) is)
            by_cases hend : thr ≤ (cnt (hasB s) ns : Int) + (cnt (holdsT d (hasB s)) is : Int)
            all_goals
              go_wp2_with fail
              go_ret
              exact ⟨by rw [HD.out]; simp [hend], by have h1 := HB1.out; rw [← hgw.out] at h1; exact bstep h1 hBr.out⟩

set_option maxHeartbeats 1000000 in
theorem rsat_run (P : Nat → Prop) (d : Nat) (T : Tree) (v0 v1 v2 : Value) (s : Nat) (w : World) (hs : s < 1024) (h : TAt P d w v0 v1 v2 T) :
    Calls Try.prog 61 #[.agg #[v0, v1, v2], .int .i64 (s : Int)] w fun e w' => e = .returned (.bool (satB d T (s : Int))) ∧ Below w.heap.size w w' := by
  have hv : setB (s : Int) = true := setB_iff.2 ⟨by omega, by omega⟩
  refine (rsatT_run P d T v0 v1 v2 (s : Int) w hv h).mono ?_
  rintro e w' ⟨rfl, hb⟩
  exact ⟨by unfold satB; rw [hv]; rfl, hb⟩

/-- The nodes of a set below n, ascending. -/
def nodL (s : Nat) : Nat → List Int
  | 0 => []
  | k + 1 => if s.testBit k then nodL s k ++ [(k : Int)] else nodL s k

theorem nodL_len (s : Nat) : ∀ k, (nodL s k).length ≤ k
  | 0 => by simp [nodL]
  | k + 1 => by
    have := nodL_len s k
    unfold nodL
    split
    · simp; omega
    · omega

theorem nodL_mem (s : Nat) : ∀ (n : Nat) (x : Int), x ∈ nodL s n ↔ ∃ k : Nat, x = (k : Int) ∧ k < n ∧ s.testBit k = true
  | 0, x => by simp [nodL]
  | n + 1, x => by
    have ih := nodL_mem s n x
    unfold nodL
    split
    · rename_i hb
      rw [List.mem_append, ih, List.mem_singleton]
      constructor
      · rintro (⟨k, e, h1, h2⟩ | e)
        · exact ⟨k, e, by omega, h2⟩
        · exact ⟨n, e, by omega, hb⟩
      · rintro ⟨k, e, h1, h2⟩
        rcases Nat.lt_or_ge k n with h3 | h3
        · exact .inl ⟨k, e, h3, h2⟩
        · obtain rfl : k = n := by omega
          exact .inr e
    · rename_i hb
      rw [ih]
      constructor
      · rintro ⟨k, e, h1, h2⟩; exact ⟨k, e, by omega, h2⟩
      · rintro ⟨k, e, h1, h2⟩
        refine ⟨k, e, ?_, h2⟩
        rcases Nat.lt_or_ge k n with h3 | h3
        · exact h3
        · obtain rfl : k = n := by omega
          exact (hb h2).elim

set_option maxRecDepth 100000 in
set_option maxHeartbeats 2000000 in
theorem rnodes_run (s : Nat) (w : World) (hs : s < 1024) :
    Calls Try.prog 60 #[.int .i64 (s : Int)] w fun e w' => ∃ v, e = .returned v ∧ NodesAt (fun b => w.heap.size ≤ b) w' v (nodL s 10) ∧ Below w.heap.size w w' := by
  obtain ⟨i0, hin, hz0, hz1, hz2⟩ := info_parts infoInt
  go_enter Try.func60, Try.ntmps60
  go_wp2_with fail
  go_loopw [3, 4] (fun v t W => ∃ (k : Nat) (vv : Value), k ≤ 10 ∧ v = vv ∧ t = .int .i64 k ∧ W.ownsRow w.heap.size 3 1 vv (nodL s k).length ((nodL s k).map (Value.int .i64)) ∧ Hid (Below w.heap.size w W)) (fun _ t _ => 10 - (intOf t).toNat)
  case atStart => exact ⟨0, .slice none 0 0, by omega, rfl, rfl, World.ownsRow_nil _ _ _ _, Lib.hid (bref _)⟩
  case round =>
    obtain ⟨k, v, hk, rfl, rfl, hown, hB⟩ := hrel
    have hlen := nodL_len s k
    by_cases hlt : k < 10
    · have hbs := hB.out.size
      have hbit := hasB_bit hs hlt
      cases hb : s.testBit k
      · rw [hb] at hbit
        have hn := Lib.hid (show nodL s (k + 1) = nodL s k by show (if s.testBit k then _ else _) = _; rw [hb]; rfl)
        have HOWN := Lib.hid hown
        go_wp2_with fail
        refine (rhas_run _ _ _).mono ?_
        rintro e w2 ⟨rfl, rfl⟩
        rw [hbit]
        go_wp2_with fail
        go_roundw
        case rel => exact ⟨k + 1, _, by omega, rfl, by go_num, by rw [hn.out]; exact HOWN.out, hB⟩
        case measure => simp [intOf]; omega
      · rw [hb] at hbit
        have hn := Lib.hid (show nodL s (k + 1) = nodL s k ++ [(k : Int)] by show (if s.testBit k then _ else _) = _; rw [hb]; rfl)
        go_wp2_with fail
        refine (rhas_run _ _ _).mono ?_
        rintro e w2 ⟨rfl, rfl⟩
        rw [hbit]
        go_wp2_with (at_builtin; refine wpList_append_own _ rfl _ _ 22 rfl w.heap.size 3 i0 (.int .i64 0) 1 8 Try.underlying22 hin hz0 hz1 hz2 rfl (by decide) _ _ _ rfl (hown.alloc _) ⟨wr.heap.size, 0, none⟩ 1 1 [.int .i64 (k : Int)] rfl rfl (cell_one_new _ _ _) (fun u hu => by simp at hu; subst hu; rfl) (by unfold maxLen; omega) (by omega) (by simp; omega) ?_; intro v' w1 hown' hgrow hnil)
        have HO := Lib.hid (own_snoc hown')
        have HB4 := Lib.hid (Below.grown (balloc hB.out (.cells #[.int .i64 (k : Int)] 3)) hgrow (by simp; omega) (fun j hj => (hown.lt j hj).1))
        clear hown' hgrow hnil hown
        go_roundw
        case rel => exact ⟨k + 1, _, by omega, rfl, by go_num, by rw [hn.out]; simpa using HO.out, HB4⟩
        case measure => simp [intOf]; omega
    · obtain rfl : k = 10 := by omega
      have HN := Lib.hid (NodesAt.of_own hown)
      obtain ⟨Av, cv, hv⟩ := own_slice hown
      subst hv
      clear hown
      go_wp2_with fail
      go_ret
      exact ⟨_, rfl, HN.out, hB.out⟩

set_option maxRecDepth 100000 in
set_option maxHeartbeats 4000000 in
theorem rdeclared_run (P : Nat → Prop) (d : Nat) (ms : List Mem) (v : Value) (w : World) (hl : ms.length ≤ 10) (h : MemsAt P d w v ms) :
    Calls Try.prog 59 #[.agg #[v]] w fun e w' => e = .returned (.int .i64 (declS ms ms.length : Nat)) ∧ Below w.heap.size w w' := by
  obtain ⟨A, c, rfl⟩ := h.slice
  have hb1 : Below w.heap.size w (w.alloc (.cells #[.slice A ms.length c] 27)) := balloc (bref w) _
  have k0 : (w.alloc (.cells #[.slice A ms.length c] 27)).heap[w.heap.size]? = some (.cells #[.slice A ms.length c] 27 (0, 0)) := alloc_at rfl
  have H := Lib.hid (h.below hb1)
  have HB := Lib.hid hb1
  have K0 := Lib.hid k0
  clear h hb1 k0
  go_enter Try.func59, Try.ntmps59
  go_upto_region 1 with fail
  generalize w.alloc (.cells #[.slice A ms.length c] 27) = W1 at *
  generalize hg : w.heap.size = g at *
  have HG := Lib.hid hg
  clear hg
  have c0 : W1.cell? ⟨g, 0, none⟩ = some (.slice A ms.length c) := cell_of_row _ _ 0 _ _ (0, 0) K0.out
  go_wp2_with fail
  go_loopw [3, 9] (fun s t W => ∃ k : Nat, k ≤ ms.length ∧ s = .int .i64 (declS ms k : Nat) ∧ t = .int .i64 k ∧ Hid (Below W1.heap.size W1 W)) (fun _ t _ => ms.length - (intOf t).toNat)
  case atStart => exact ⟨0, by omega, rfl, rfl, Lib.hid (bref _)⟩
  case round =>
    obtain ⟨k, hk, rfl, rfl, hB⟩ := hrel
    by_cases hlt : k < ms.length
    · obtain ⟨m, hm⟩ : ∃ m, ms[k]? = some m := ⟨_, List.getElem?_eq_getElem hlt⟩
      obtain ⟨b, off, t, A1, n1, c1, A2, n2, c2, rfl, hP, hbl, e0, e1, e2, e3, hT⟩ := memBox (H.out.below hB.out) hm
      have HDS := Lib.hid (show declS ms (k + 1) = if m.1 then declS ms k ||| 2 ^ k else declS ms k by
        show (if (ms.getD k (false, .mk 0 [] [])).1 then _ else _) = _
        rw [List.getD_eq_getElem?_getD, hm]; rfl)
      have hdl := declS_lt ms k (by omega)
      have HOR := Lib.hid (shl_or (declS ms k) k (by omega) (by omega))
      obtain ⟨dec, T⟩ := m
      clear hm hT
      generalize declS ms k = D at *
      have hk10 : (k : Int) < 10 := by omega
      cases dec
      · rw [if_neg (by simp)] at HDS
        go_wp2_with fail
        go_roundw
        case rel => exact ⟨k + 1, by omega, by rw [HDS.out], by go_num, Lib.hid (balloc hB.out _)⟩
        case measure => simp [intOf]; omega
      · rw [if_pos rfl] at HDS
        go_wp2_with fail
        rw [HOR.out]
        go_roundw
        case rel => exact ⟨k + 1, by omega, by rw [HDS.out], by go_num, Lib.hid (balloc hB.out _)⟩
        case measure => simp [intOf]; omega
    · obtain rfl : k = ms.length := by omega
      go_wp2_with fail
      go_ret
      exact ⟨rfl, by
        have h1 := HB.out
        rw [← HG.out] at h1
        exact bstep h1 hB.out⟩

end Go.Proofs.Ytfghnkgllmofgaa
