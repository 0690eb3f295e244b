/- A configuration that the tape makes is valid: the contracts of configuration.validMember and configuration.Valid. -/
import Derived.Test.YtfghnkgllmofgaaCMade
import Derived.Test.YtfghnkgllmofgaaRight
import Derived.Test.YtfghnkgllmofgaaSame
namespace Go.Proofs.Ytfghnkgllmofgaa
set_option linter.unusedVariables false
set_option linter.unusedSimpArgs false
open Go.RowKit

theorem sizeT1_le {n : Int} {T : Tree} (h : WF n 1 T) : sizeT 1 T ≤ 10 := by
  obtain ⟨thr, ns, is⟩ := T
  obtain ⟨_, _, h1, h2, _, _, hi⟩ := h
  have : is = [] := by
    cases is with
    | nil => rfl
    | cons a l => exact (hi a (by simp)).elim
  subst this
  show ns.length + ([] : List Tree).length + (([] : List Tree).map (sizeT 0)).sum ≤ 10
  simp; omega

theorem sum_le_mul2 {l : List Nat} {b : Nat} (h : ∀ x ∈ l, x ≤ b) : l.sum ≤ l.length * b := by
  induction l with
  | nil => simp
  | cons a l ih =>
    have h1 := h a List.mem_cons_self
    have h2 := ih (fun x hx => h x (List.mem_cons_of_mem _ hx))
    rw [List.sum_cons, List.length_cons, Nat.add_mul]
    omega

theorem sizeT2_le {n : Int} {T : Tree} (h : WF n 2 T) : sizeT 2 T ≤ 200 := by
  obtain ⟨thr, ns, is⟩ := T
  obtain ⟨_, _, h1, h2, _, _, hi⟩ := h
  have h3 : (is.map (sizeT 1)).sum ≤ (is.map (sizeT 1)).length * 10 := sum_le_mul2 (fun x hx => by
    obtain ⟨T, hT, rfl⟩ := List.mem_map.1 hx
    exact sizeT1_le (hi T hT))
  rw [List.length_map] at h3
  show ns.length + is.length + (is.map (sizeT 1)).sum ≤ 200
  omega

theorem foldOr_bit' : ∀ (l : List Nat) (s K : Nat), (l.foldl (· ||| ·) s).testBit K = true → s.testBit K = true ∨ ∃ x ∈ l, x.testBit K = true
  | [], s, K, h => .inl h
  | x :: l, s, K, h => by
    rw [List.foldl_cons] at h
    rcases foldOr_bit' l _ K h with h1 | ⟨y, hy, h1⟩
    · rw [Nat.testBit_or, Bool.or_eq_true] at h1
      exact h1.elim .inl (fun h => .inr ⟨x, by simp, h⟩)
    · exact .inr ⟨y, by simp [hy], h1⟩

/-- The nodes of a well-formed trust are nodes. -/
theorem usesT_sub {n : Nat} (hn : n ≤ 10) : ∀ (d : Nat) (T : Tree), WF n d T → ∀ k, (usesT d T).testBit k = true → k < n
  | 0, T, h, _, _ => h.elim
  | d + 1, .mk thr ns is, h, k, hk => by
    obtain ⟨_, _, _, _, hr, _, hi⟩ := h
    rcases foldOr_bit' _ _ k hk with h1 | ⟨x, hx, h1⟩
    · rw [nodesS_bit k (fun x hx => by have := hr x hx; omega), decide_eq_true_eq] at h1
      have := hr _ h1
      omega
    · obtain ⟨T, hT, rfl⟩ := List.mem_map.1 hx
      exact usesT_sub hn d T (hi T hT) k h1

theorem shr_zero (U n : Nat) (h : ∀ k, U.testBit k = true → k < n) : (U : Int) / 2 ^ n = 0 := by
  have h1 : U < 2 ^ n := Nat.lt_pow_two_of_testBit U (fun i hi => by
    cases hb : U.testBit i
    · rfl
    · have := h i hb; omega)
  have e : ((U : Int) / 2 ^ n) = ((U / 2 ^ n : Nat) : Int) := by
    rw [Int.natCast_ediv, Int.natCast_pow]; rfl
  rw [e, Nat.div_eq_of_lt h1]; rfl

set_option maxRecDepth 100000 in
set_option maxHeartbeats 2000000 in
theorem uothers_run (P : Nat → Prop) (d : Nat) (T : Tree) (v0 v1 v2 : Value) (n : Nat) (hn : n ≤ 10) (w : World) (h : TAt P d w v0 v1 v2 T) (hW : WF n d T) :
    Calls Try.prog 65 #[.agg #[v0, v1, v2], .int .i64 (n : Int)] w fun e w' => e = .returned (.bool false) ∧ Below w.heap.size w w' := by
  obtain ⟨t', A', n', ca, B', m', cb, rfl, rfl, rfl⟩ := h.form
  have hT := Lib.hid (h.below (balloc (bref w) (.cells #[.int .i64 t', .slice A' n' ca, .slice B' m' cb] 49)))
  have hZ := shr_zero (usesT d T) n (usesT_sub hn d T hW)
  have hn0 : (0 : Int) ≤ (n : Int) := by omega
  have hn64 : ¬ (64 : Int) ≤ (n : Int) := by omega
  clear h
  go_enter Try.func65, Try.ntmps65
  go_wp2_with fail
  refine (puses_run P d T _ _ _ _ hT.out).mono ?_
  rintro e w2 ⟨rfl, hb2⟩
  have HB2 := Lib.hid (bstep (balloc (bref w) (.cells #[.int .i64 t', .slice A' n' ca, .slice B' m' cb] 49)) hb2)
  clear hb2
  go_wp2_with fail
  go_ret
  exact ⟨rfl, HB2.out⟩

set_option maxRecDepth 100000 in
set_option maxHeartbeats 2000000 in
theorem vmember_run (P : Nat → Prop) (dec : Bool) (T : Tree) (v0 v1 v2 : Value) (n : Nat) (hn : n ≤ 10) (w : World) (h : TAt P 2 w v0 v1 v2 T) (h1 : dec = true → WF n 2 T) (h2 : dec = false → T = .mk 0 [] []) :
    Calls Try.prog 47 #[.agg #[.bool dec, v0, v1, v2], .int .i64 (n : Int)] w fun e w' => e = .returned (.int .i64 0) ∧ Below w.heap.size w w' := by
  obtain ⟨t', A', n', ca, B', m', cb, rfl, rfl, rfl⟩ := h.form
  have hb := balloc (bref w) (.cells #[.bool dec, .int .i64 t', .slice A' n' ca, .slice B' m' cb] 53)
  have k0 : (w.alloc (.cells #[.bool dec, .int .i64 t', .slice A' n' ca, .slice B' m' cb] 53)).heap[w.heap.size]? = some (.cells #[.bool dec, .int .i64 t', .slice A' n' ca, .slice B' m' cb] 53 (0, 0)) := alloc_at rfl
  have hT := Lib.hid (h.below hb)
  have HB := Lib.hid hb
  have K0 := Lib.hid k0
  clear h hb k0
  cases dec
  · obtain rfl := h2 rfl
    clear h1 h2
    go_enter Try.func47, Try.ntmps47
    go_wp2_with fail
    refine (psame_run 2 P (fun _ => True) (.mk 0 [] []) _ _ _ _ _ _ _ hT.out ⟨rfl, by simp, by simp, ⟨none, 0, rfl, fun k hk => by simp at hk⟩, ⟨none, 0, rfl, fun k T hT => by simp at hT⟩⟩).mono ?_
    rintro e w2 ⟨rfl, hb2⟩
    have HB2 := Lib.hid (bstep HB.out hb2)
    clear hb2
    go_wp2_with fail
    go_ret
    exact ⟨rfl, HB2.out⟩
  · have HW := Lib.hid (h1 rfl)
    clear h1 h2
    go_enter Try.func47, Try.ntmps47
    go_upto_region 1 with fail
    generalize w.alloc (.cells #[.bool true, .int .i64 t', .slice A' n' ca, .slice B' m' cb] 53) = W1 at *
    generalize hg : w.heap.size = g at *
    have HG := Lib.hid hg
    clear hg
    have c0 : W1.cell? ⟨g, 0, none⟩ = some (.bool true) := cell_of_row _ _ 0 _ _ (0, 0) K0.out
    have c1 : W1.cell? ⟨g, 1, none⟩ = some (.int .i64 t') := cell_of_row _ _ 1 _ _ (0, 0) K0.out
    have c2 : W1.cell? ⟨g, 2, none⟩ = some (.slice A' n' ca) := cell_of_row _ _ 2 _ _ (0, 0) K0.out
    have c3 : W1.cell? ⟨g, 3, none⟩ = some (.slice B' m' cb) := cell_of_row _ _ 3 _ _ (0, 0) K0.out
    go_wp2_with fail
    refine (pvalid_run n (by omega) 2 (by omega) P T _ _ _ _ hT.out HW.out (sizeT2_le HW.out)).mono ?_
    rintro e w2 ⟨rfl, hb2⟩
    have d1 := (hb2.cell (cell_lt c1)).trans c1
    have d2 := (hb2.cell (cell_lt c2)).trans c2
    have d3 := (hb2.cell (cell_lt c3)).trans c3
    have HB2 := Lib.hid hb2
    clear hb2 c0 c1 c2 c3
    go_wp2_with fail
    refine (uothers_run P 2 T _ _ _ n hn _ (hT.out.below HB2.out) HW.out).mono ?_
    rintro e w3 ⟨rfl, hb3⟩
    have HB3 := Lib.hid (bstep HB2.out hb3)
    clear hb3 d1 d2 d3
    go_wp2_with fail
    go_ret
    exact ⟨rfl, by
      have h1 := HB.out
      rw [← HG.out] at h1
      exact bstep h1 HB3.out⟩

theorem MemsAt.up {P : Nat → Prop} {w : World} {d : Nat} {v : Value} {ms : List Mem} (h : MemsAt P d w v ms) : MemsAt P (d + 1) w v ms := by
  obtain ⟨A, c, h1, h2⟩ := h
  refine ⟨A, c, h1, fun k m hm => ?_⟩
  obtain ⟨b, off, x0, x1, x2, e0, e1, e2, e3, e4, e5, e6⟩ := h2 k m hm
  exact ⟨b, off, x0, x1, x2, e0, e1, e2, e3, e4, e5, e6.up⟩

set_option maxRecDepth 100000 in
set_option maxHeartbeats 2000000 in
theorem cvalid_run (P : Nat → Prop) (ms : List Mem) (v : Value) (w : World) (hl : ms.length ≤ 10) (h : MemsAt P 2 w v ms) (hok : MemsOk ms.length ms) :
    Calls Try.prog 23 #[.agg #[v]] w fun e w' => e = .returned (.int .i64 0) ∧ Below w.heap.size w w' := by
  obtain ⟨A, c, rfl⟩ := h.slice
  have hb1 : Below w.heap.size w (w.alloc (.cells #[.slice A ms.length c] 27)) := balloc (bref w) _
  have k0 : (w.alloc (.cells #[.slice A ms.length c] 27)).heap[w.heap.size]? = some (.cells #[.slice A ms.length c] 27 (0, 0)) := alloc_at rfl
  have H := Lib.hid (h.below hb1)
  have HB := Lib.hid hb1
  have K0 := Lib.hid k0
  have HOK := Lib.hid hok
  clear h hb1 k0 hok
  go_enter Try.func23, Try.ntmps23
  go_upto_region 1 with fail
  generalize w.alloc (.cells #[.slice A ms.length c] 27) = W1 at *
  generalize hg : w.heap.size = g at *
  have HG := Lib.hid hg
  clear hg
  have c0 : W1.cell? ⟨g, 0, none⟩ = some (.slice A ms.length c) := cell_of_row _ _ 0 _ _ (0, 0) K0.out
  have hgl := cell_lt c0
  have hl10 : ¬ (10 : Int) < (ms.length : Int) := by omega
  go_wp2_with fail
  go_loopw [13] (fun t W => ∃ k : Nat, k ≤ ms.length ∧ t = .int .i64 k ∧ Hid (Below W1.heap.size W1 W)) (fun t _ => ms.length - (intOf t).toNat)
  case atStart => exact ⟨0, by omega, rfl, Lib.hid (bref _)⟩
  case round =>
    obtain ⟨k, hk, rfl, hB⟩ := hrel
    by_cases hlt : k < ms.length
    · obtain ⟨m, hm⟩ : ∃ m, ms[k]? = some m := ⟨_, List.getElem?_eq_getElem hlt⟩
      obtain ⟨b, off, t, A1, n1, c1, A2, n2, c2, rfl, hP, hbl, e0, e1, e2, e3, hT⟩ := memBox (H.out.below hB.out) hm
      have hmo := HOK.out m (List.mem_of_getElem? hm)
      have HM1 := Lib.hid hmo.1
      have HM2 := Lib.hid hmo.2
      obtain ⟨dec, T⟩ := m
      have hba := balloc (bref wr) (.cells #[.bool dec, .int .i64 t, .slice A1 n1 c1, .slice A2 n2 c2] 53)
      have c4 : (wr.alloc (.cells #[.bool dec, .int .i64 t, .slice A1 n1 c1, .slice A2 n2 c2] 53)).cell? ⟨g, 0, none⟩ = some (.slice (some ⟨b, off, none⟩) ms.length c) := ((bstep hB.out hba).cell hgl).trans c0
      have hTA := Lib.hid (hT.below hba)
      have HBA := Lib.hid (bstep hB.out hba)
      clear hm hT hmo hba
      go_wp2_with fail
      refine (vmember_run P dec T _ _ _ ms.length hl _ hTA.out HM1.out HM2.out).mono ?_
      rintro e w2 ⟨rfl, hb2⟩
      have HB2 := Lib.hid (bstep HBA.out hb2)
      clear hb2 c4
      go_wp2_with fail
      go_roundw
      case rel => exact ⟨k + 1, by omega, by go_num, HB2⟩
      case measure => simp [intOf]; omega
    · obtain rfl : k = ms.length := by omega
      go_wp2_with fail
      go_ret
      exact ⟨rfl, by
        have h1 := HB.out
        rw [← HG.out] at h1
        exact bstep h1 hB.out⟩

end Go.Proofs.Ytfghnkgllmofgaa
