/- The example of layer 11. -/
import Derived.Test.YtnfdacfhhkahhaaB5
import Derived.Deep.DeepCutAuto
import Derived.Deep.CutRange
namespace Go.Proofs.Ytnfdacfhhkahhaa
set_option linter.unusedVariables false
set_option linter.unusedSimpArgs false
open Go.RowKit

set_option maxRecDepth 100000 in
set_option maxHeartbeats 4000000 in
theorem three11_run (w : World) : Calls Try.prog 25 #[] w fun e w' => ∃ v, e = .returned (.agg #[v]) ∧ MemsAt (fun _ => True) 1 w' v thM ∧ Below w.heap.size w w' := by
  go_enter Try.func25, Try.ntmps25
  go_wp2_with fail
  have h0 := alloc_on (o := .cells #[.bool true, .int .i64 2, .slice (some ⟨w.heap.size + 1, 0, none⟩) 3 3, .slice none 0 0, .bool true, .int .i64 2, .slice (some ⟨w.heap.size + 1, 0, none⟩) 3 3, .slice none 0 0, .bool true, .int .i64 2, .slice (some ⟨w.heap.size + 1, 0, none⟩) 3 3, .slice none 0 0] 34) (alloc_on (o := .cells #[.int .i64 2, .slice (some ⟨w.heap.size + 1, 0, none⟩) 3 3, .slice none 0 0] 32) (alloc_on (o := .cells #[.int .i64 0, .int .i64 1, .int .i64 2] 3) (alloc_at (w := w) (o := .cells #[.slice (some ⟨w.heap.size + 1 + 1 + 1, 0, none⟩) 3 3] 27) rfl)))
  have h1 := alloc_on (o := .cells #[.bool true, .int .i64 2, .slice (some ⟨w.heap.size + 1, 0, none⟩) 3 3, .slice none 0 0, .bool true, .int .i64 2, .slice (some ⟨w.heap.size + 1, 0, none⟩) 3 3, .slice none 0 0, .bool true, .int .i64 2, .slice (some ⟨w.heap.size + 1, 0, none⟩) 3 3, .slice none 0 0] 34) (alloc_on (o := .cells #[.int .i64 2, .slice (some ⟨w.heap.size + 1, 0, none⟩) 3 3, .slice none 0 0] 32) (alloc_at (w := w.alloc (.cells #[.slice (some ⟨w.heap.size + 1 + 1 + 1, 0, none⟩) 3 3] 27)) (o := .cells #[.int .i64 0, .int .i64 1, .int .i64 2] 3) (alloc_sz _ _)))
  have h3 := alloc_at (w := ((w.alloc (.cells #[.slice (some ⟨w.heap.size + 1 + 1 + 1, 0, none⟩) 3 3] 27)).alloc (.cells #[.int .i64 0, .int .i64 1, .int .i64 2] 3)).alloc (.cells #[.int .i64 2, .slice (some ⟨w.heap.size + 1, 0, none⟩) 3 3, .slice none 0 0] 32)) (o := .cells #[.bool true, .int .i64 2, .slice (some ⟨w.heap.size + 1, 0, none⟩) 3 3, .slice none 0 0, .bool true, .int .i64 2, .slice (some ⟨w.heap.size + 1, 0, none⟩) 3 3, .slice none 0 0, .bool true, .int .i64 2, .slice (some ⟨w.heap.size + 1, 0, none⟩) 3 3, .slice none 0 0] 34) (k := w.heap.size + 1 + 1 + 1) (by rw [alloc_sz, alloc_sz, alloc_sz])
  have hbb := balloc (balloc (balloc (balloc (bref w) (.cells #[.slice (some ⟨w.heap.size + 1 + 1 + 1, 0, none⟩) 3 3] 27)) (.cells #[.int .i64 0, .int .i64 1, .int .i64 2] 3)) (.cells #[.int .i64 2, .slice (some ⟨w.heap.size + 1, 0, none⟩) 3 3, .slice none 0 0] 32)) (.cells #[.bool true, .int .i64 2, .slice (some ⟨w.heap.size + 1, 0, none⟩) 3 3, .slice none 0 0, .bool true, .int .i64 2, .slice (some ⟨w.heap.size + 1, 0, none⟩) 3 3, .slice none 0 0, .bool true, .int .i64 2, .slice (some ⟨w.heap.size + 1, 0, none⟩) 3 3, .slice none 0 0] 34)
  generalize ((((w.alloc (.cells #[.slice (some ⟨w.heap.size + 1 + 1 + 1, 0, none⟩) 3 3] 27)).alloc (.cells #[.int .i64 0, .int .i64 1, .int .i64 2] 3)).alloc (.cells #[.int .i64 2, .slice (some ⟨w.heap.size + 1, 0, none⟩) 3 3, .slice none 0 0] 32)).alloc (.cells #[.bool true, .int .i64 2, .slice (some ⟨w.heap.size + 1, 0, none⟩) 3 3, .slice none 0 0, .bool true, .int .i64 2, .slice (some ⟨w.heap.size + 1, 0, none⟩) 3 3, .slice none 0 0, .bool true, .int .i64 2, .slice (some ⟨w.heap.size + 1, 0, none⟩) 3 3, .slice none 0 0] 34)) = W at *
  have q0 : W.cell? ⟨w.heap.size, 0, none⟩ = some (.slice (some ⟨w.heap.size + 1 + 1 + 1, 0, none⟩) 3 3) := cell_of_row _ _ 0 _ _ (0, 0) h0
  have hT : TAt (fun _ => True) 1 W (.int .i64 2) (.slice (some ⟨w.heap.size + 1, 0, none⟩) 3 3) (.slice none 0 0) thT := by
    refine ⟨rfl, by decide, by decide, ⟨some ⟨w.heap.size + 1, 0, none⟩, 3, rfl, fun k hk => ⟨w.heap.size + 1, 0, rfl, trivial, ?_⟩⟩, ⟨none, 0, rfl, fun k T hT => by simp at hT⟩⟩
    have hk3 : k < 3 := hk
    rw [Nat.zero_add]
    refine (cell_of_row _ _ k _ _ (0, 0) h1).trans ?_
    match k, hk3 with
    | 0, _ | 1, _ | 2, _ => rfl
  refine bodyPost_ret (v := .agg #[.slice (some ⟨w.heap.size + 1 + 1 + 1, 0, none⟩) 3 3]) ?_ rfl ⟨_, rfl, ?_, hbb⟩
  · simp [results, Try.results25, go_sem, q0]
  · refine ⟨some ⟨w.heap.size + 1 + 1 + 1, 0, none⟩, 3, rfl, fun k m hm => ?_⟩
    have hk3 : k < 3 := (List.getElem?_eq_some_iff.1 hm).1
    have c : ∀ j, W.cell? ⟨w.heap.size + 1 + 1 + 1, j, none⟩ = _ := fun j => cell_of_row _ _ j _ _ (0, 0) h3
    obtain rfl : m = (true, thT) := by
      match k, hk3, hm with
      | 0, _, h => exact (Option.some.inj h).symm
      | 1, _, h => exact (Option.some.inj h).symm
      | 2, _, h => exact (Option.some.inj h).symm
    refine ⟨w.heap.size + 1 + 1 + 1, 0, .int .i64 2, .slice (some ⟨w.heap.size + 1, 0, none⟩) 3 3, .slice none 0 0, rfl, trivial, ?_, ?_, ?_, ?_, hT⟩
    all_goals
      rw [c]
      match k, hk3 with
      | 0, _ | 1, _ | 2, _ => rfl


theorem thM_ok : MemsOk thM.length thM := by
  intro x hx
  have hx' : x = (true, thT) := by
    have : thM = [(true, thT), (true, thT), (true, thT)] := rfl
    rw [this] at hx
    simpa using hx
  subst hx'
  refine ⟨fun _ => ?_, fun h => by cases h⟩
  refine ⟨by decide, by decide, by decide, by decide, ?_, by decide, fun T hT => by cases hT⟩
  intro y hy
  have : y = 0 ∨ y = 1 ∨ y = 2 := by simpa using hy
  show 0 ≤ y ∧ y < 3
  omega

/-- The place of a set in the order of sets. -/
def keyS (s : Nat) : Nat := popc s * 1024 + s

theorem key_next (s : Nat) (hs : s < 1024) (h : nextN 10 s < 1024) : keyS s < keyS (nextN 10 s) ∧ (keyS s < keyS 6 → keyS (nextN 10 s) ≤ keyS 6) := by
  have all : ∀ s : Fin 1024, nextN 10 s.val < 1024 → keyS s.val < keyS (nextN 10 s.val) ∧ (keyS s.val < keyS 6 → keyS (nextN 10 s.val) ≤ keyS 6) := by decide +kernel
  exact all ⟨s, hs⟩ h

theorem key_end (s : Nat) (hs : s < 1024) (h : 1024 ≤ nextN 10 s) : keyS 6 < keyS s := by
  have all : ∀ s : Fin 1024, 1024 ≤ nextN 10 s.val → keyS 6 < keyS s.val := by decide +kernel
  exact all ⟨s, hs⟩ h

theorem key_lt (s : Nat) (hs : s < 1024) : keyS s < 20000 := by
  have := popc_le s
  unfold keyS; omega

theorem key_blk (s : Nat) (hs : s < 1024) : (blkM 1 thM s 0 = true → keyS s ≤ keyS 6 → s = 6) ∧ (blkM 1 thM s 0 = true → (bits .andNot .i64 6 (s : Int) == 0) = true) ∧ (keyS s = keyS 6 → s = 6) := by
  have all : ∀ s : Fin 1024, (blkM 1 thM s.val 0 = true → keyS s.val ≤ keyS 6 → s.val = 6) ∧ (blkM 1 thM s.val 0 = true → (bits .andNot .i64 6 (s.val : Int) == 0) = true) ∧ (keyS s.val = keyS 6 → s.val = 6) := by decide +kernel
  exact all ⟨s, hs⟩

theorem blk_6 : blkM 1 thM 6 0 = true := by decide +kernel

set_option maxHeartbeats 400000 in
theorem least1_run (t s : Int) (box : Nat) (w : World) (hc : w.cell? ⟨box, 0, none⟩ = some (.int .i64 s)) :
    Calls Try.prog 38 #[.int .i64 t, .pointer (some ⟨box, 0, none⟩)] w fun e w' => e = .returned (.bool (bits .andNot .i64 t s == 0)) ∧ w = w' := by
  go_enter Try.func38, Try.ntmps38
  go_wp2_with fail
  go_ret
  exact ⟨rfl, rfl⟩

set_option maxHeartbeats 1000000 in
theorem indexLeast_run (P : Nat → Prop) (v : Value) (gs : List Int) (s : Int) (box : Nat) (w : World) (hg : gs = [] ∨ ∃ t, gs = [t] ∧ (bits .andNot .i64 t s == 0) = true) (hN : NodesAt P w v gs) (hc : w.cell? ⟨box, 0, none⟩ = some (.int .i64 s)) :
    Calls Try.prog 63 #[v, .func (.func 38) #[] #[.pointer (some ⟨box, 0, none⟩)]] w fun e w' => e = .returned (.int .i64 (if gs = [] then -1 else 0)) ∧ w = w' := by
  obtain ⟨A, c, rfl, h⟩ := hN
  rcases hg with rfl | ⟨t, rfl, ht⟩
  · clear h
    go_enter Try.func63, Try.ntmps63
    go_wp2_with fail
    go_loop [8] (fun t => t = .int .i64 0) (fun t => 0)
    case atStart => rfl
    case round =>
      obtain rfl := hrel
      go_wp2_with fail
      go_ret
      exact ⟨rfl, rfl⟩
  · obtain ⟨b, off, rfl, _, hx⟩ := h 0 (by simp)
    rw [Nat.add_zero] at hx
    have hx' : w.cell? ⟨b, off, none⟩ = some (.int .i64 t) := hx
    clear hx h
    go_enter Try.func63, Try.ntmps63
    go_wp2_with fail
    go_loop [8] (fun t => t = .int .i64 0) (fun t => 0)
    case atStart => rfl
    case round =>
      obtain rfl := hrel
      go_wp2_with fail
      refine (least1_run t s box _ hc).mono ?_
      rintro e w2 ⟨rfl, rfl⟩
      rw [ht]
      go_wp2_with fail
      go_ret
      exact ⟨rfl, rfl⟩

set_option maxHeartbeats 1000000 in
theorem containsLeast_run (P : Nat → Prop) (v : Value) (gs : List Int) (s : Int) (box : Nat) (w : World) (hg : gs = [] ∨ ∃ t, gs = [t] ∧ (bits .andNot .i64 t s == 0) = true) (hN : NodesAt P w v gs) (hc : w.cell? ⟨box, 0, none⟩ = some (.int .i64 s)) :
    Calls Try.prog 37 #[v, .func (.func 38) #[] #[.pointer (some ⟨box, 0, none⟩)]] w fun e w' => e = .returned (.bool (!decide (gs = []))) ∧ w = w' := by
  have HN := Lib.hid hN
  obtain ⟨A, c, rfl, _⟩ := hN
  have HG := Lib.hid hg
  clear hg
  go_enter Try.func37, Try.ntmps37
  go_wp2_with fail
  refine (indexLeast_run P _ gs s box _ HG.out HN.out hc).mono ?_
  rintro e w2 ⟨rfl, rfl⟩
  by_cases h0 : gs = []
  · rw [if_pos h0]
    have H0 := Lib.hid h0
    clear h0
    go_wp2_with fail
    go_ret
    exact ⟨by rw [decide_eq_true H0.out]; rfl, rfl⟩
  · rw [if_neg h0]
    have H0 := Lib.hid h0
    clear h0
    go_wp2_with fail
    go_ret
    exact ⟨by rw [decide_eq_false H0.out]; rfl, rfl⟩

/-- The measure of the walk through the sets. -/
def boxS (b : Value) (W : World) : Nat := match b with
  | .pointer (some a) => (match W.cell? a with | some x => (intOf x).toNat | none => 0)
  | _ => 0

def msr (b k : Value) (W : World) : Nat := match k with
  | .bool true => 20001 - keyS (boxS b W)
  | _ => 0

theorem msr_true {W : World} {a : Addr} {s : Nat} (h : W.cell? a = some (.int .i64 (s : Int))) : msr (.pointer (some a)) (.bool true) W = 20001 - keyS s := by
  unfold msr boxS
  simp only [h]
  simp [intOf]

theorem msr_false {W : World} {b : Value} : msr b (.bool false) W = 0 := rfl

set_option maxRecDepth 100000 in
set_option maxHeartbeats 4000000 in
theorem least11_run (P : Nat → Prop) (v : Value) (w : World) (h : MemsAt P 1 w v thM) :
    Calls Try.prog 12 #[.agg #[v], .int .i64 0] w fun e w' => ∃ lv, e = .returned (.tuple #[lv, .int .i64 0]) ∧ NodesAt (fun _ => True) w' lv [6] ∧ Below w.heap.size w w' := by
  obtain ⟨i0, hin, hz0, hz1, hz2⟩ := info_parts infoInt
  obtain ⟨A, c, hv⟩ : ∃ A c, v = .slice A 3 c := by
    obtain ⟨A, c, h1⟩ := h.slice
    exact ⟨A, c, h1⟩
  subst hv
  have hl : thM.length ≤ 10 := by decide
  have hb1 : Below w.heap.size w (w.alloc (.cells #[.slice A 3 c] 27)) := balloc (bref w) _
  have k0 : (w.alloc (.cells #[.slice A 3 c] 27)).heap[w.heap.size]? = some (.cells #[.slice A 3 c] 27 (0, 0)) := alloc_at rfl
  have H := Lib.hid (h.below hb1)
  have HB := Lib.hid hb1
  have K0 := Lib.hid k0
  clear h hb1 k0
  go_enter Try.func12, Try.ntmps12
  go_upto_region 1 with fail
  generalize w.alloc (.cells #[.slice A 3 c] 27) = W1 at *
  generalize hg : w.heap.size = g at *
  have HG := Lib.hid hg
  clear hg
  have c0 : W1.cell? ⟨g, 0, none⟩ = some (.slice A 3 c) := cell_of_row _ _ 0 _ _ (0, 0) K0.out
  have hgl := cell_lt c0
  go_wp2_with fail
  refine (cvalid_run P thM _ _ hl H.out.up thM_ok).mono ?_
  rintro e W2 ⟨rfl, hb2⟩
  have H2 := Lib.hid (H.out.below hb2)
  have HB2 := Lib.hid (show Below w.heap.size w W2 by
    have h1 := HB.out
    rw [← HG.out] at h1
    exact bstep h1 hb2)
  have c0' := (hb2.cell hgl).trans c0
  have hgl2 : g < W2.heap.size := Nat.lt_of_lt_of_le hgl hb2.size
  clear hb2 c0 H HB K0
  obtain ⟨b, off, t, A1, n1, c1, A2, n2, c2, hA, hP, hbl, e0, e1, e2, e3, hT⟩ := memBox (k := 0) (m := (true, thT)) (ms := thM) H2.out rfl
  subst hA
  have d0 : W2.cell? ⟨b, off, none⟩ = some (.bool true) := by simpa using e0
  have C0 := Lib.hid c0'
  clear e0 e1 e2 e3 hT
  have k8 : (W2.alloc (.cells #[.int .i64 0] 3)).heap[W2.heap.size]? = some (.cells #[.int .i64 ((0 : Nat) : Int)] 3 (0, 0)) := alloc_at rfl
  have K8 := Lib.hid k8
  clear k8
  go_wp2_with fail
  go_loopw [7, 8, 9] (fun lv bv kv W => ∃ (s box : Nat) (ok : Bool) (gs : List Int) (lw : Value), lv = lw ∧ bv = .pointer (some ⟨box, 0, none⟩) ∧ kv = .bool ok ∧ s < 1024 ∧ W2.heap.size ≤ box ∧ Hid (W.heap[box]? = some (.cells #[.int .i64 (s : Int)] 3 (0, 0))) ∧ Hid (NodesAt (fun _ => True) W lw gs) ∧ Hid (gs = [] ∧ lw = .slice none 0 0 ∧ ok = true ∧ keyS s ≤ keyS 6 ∨ gs = [6]) ∧ Hid (Below W2.heap.size W2 W)) (fun _ bv kv W => msr bv kv W)
  case atStart => exact ⟨0, W2.heap.size, true, [], .slice none 0 0, rfl, rfl, rfl, by omega, Nat.le_refl _, K8, Lib.hid ⟨none, 0, rfl, fun k hk => by simp at hk⟩, Lib.hid (.inl ⟨rfl, rfl, rfl, by decide +kernel⟩), Lib.hid (balloc (bref W2) _)⟩
  case round =>
    obtain ⟨s, box, ok, gs, lw, hlv, rfl, rfl, hs, hbox, hK, hN, hSt, hB⟩ := hrel
    replace hlv := hlv.symm
    subst hlv
    clear d0 c0'
    cases ok
    · have h6 : gs = [6] := by
        rcases hSt.out with ⟨_, _, h, _⟩ | h
        · cases h
        · exact h
      subst h6
      have HF := Lib.hid (bstep HB2.out hB.out)
      obtain ⟨Az, cz, hz⟩ : ∃ A c, lw = .slice A 1 c := by
        obtain ⟨A, c, h1, _⟩ := hN.out
        exact ⟨A, c, h1⟩
      subst hz
      go_wp2_with fail
      go_ret2
      exact ⟨_, rfl, hN.out, HF.out⟩
    · have HMS := Lib.hid (msr_true (W := wr) (a := ⟨box, 0, none⟩) (s := s) (cell_of_row _ _ 0 _ _ (0, 0) hK.out))
      have q0 : wr.cell? ⟨box, 0, none⟩ = some (.int .i64 (s : Int)) := cell_of_row _ _ 0 _ _ (0, 0) hK.out
      have c1 : wr.cell? ⟨g, 0, none⟩ = some (.slice (some ⟨b, off, none⟩) 3 c) := (hB.out.cell hgl2).trans C0.out
      go_wp2_with fail
      refine (blocks_run _ 1 thM _ 0 s _ hl hs (by omega) (H2.out.below hB.out)).mono ?_
      rintro e W4 ⟨rfl, hb4⟩
      have q4 := (hb4.cell (cell_lt q0)).trans q0
      have HB4 := Lib.hid (bstep hB.out hb4)
      have HN4 := Lib.hid (nodes_bel hN.out hb4)
      have HKB := Lib.hid (key_blk s hs)
      clear hb4 q0 c1
      cases hbk : blkM 1 thM s 0
      · have HBK := Lib.hid hbk
        have HST := Lib.hid (show keyS s < keyS 6 ∨ gs = [6] by
          rcases hSt.out with ⟨_, _, _, h⟩ | h
          · left
            rcases Nat.lt_or_ge (keyS s) (keyS 6) with h1 | h1
            · exact h1
            · have := HKB.out.2.2 (by omega)
              subst this
              rw [blk_6] at hbk; cases hbk
          · exact .inr h)
        clear hbk
        have hsz8 : W2.heap.size ≤ W4.heap.size := HB4.out.size
        go_wp2_with fail
        refine (pnext_run s 10 (by omega) (by omega) _).mono ?_
        rintro e w9 ⟨rfl, rfl⟩
        have SET8 := Lib.hid (fun (x : Int) => (alloc_at rfl : (W4.alloc (.cells #[.int .i64 x] 3)).heap[W4.heap.size]? = some (.cells #[.int .i64 x] 3 (0, 0))))
        have NOD8 := Lib.hid (fun (x : Int) => nodes_bel HN4.out (balloc (bref W4) (.cells #[.int .i64 x] 3)))
        have BEL8 := Lib.hid (fun (x : Int) => balloc HB4.out (.cells #[.int .i64 x] 3))
        rcases Nat.lt_or_ge (nextN 10 s) 1024 with hnx | hnx
        · have HE := Lib.hid (show nextR 10 s = .returned (.tuple #[.int .i64 (nextN 10 s : Int), .bool true]) by
            unfold nextR; rw [if_neg (show ¬ 2 ^ 10 ≤ nextN 10 s by omega), decide_eq_false (show ¬ 2 ^ 10 ≤ nextN 10 s by omega)]; rfl)
          have HKN := Lib.hid (key_next s hs hnx)
          have HKL := Lib.hid (key_lt _ hnx)
          rw [HE.out]
          generalize nextN 10 s = sn at *
          go_wp2_with fail
          go_roundw
          case rel => exact ⟨sn, _, true, gs, _, rfl, rfl, rfl, hnx, hsz8, Lib.hid (SET8.out _), Lib.hid (NOD8.out _), Lib.hid (hSt.out.elim (fun h => HST.out.elim (fun h1 => .inl ⟨h.1, h.2.1, rfl, HKN.out.2 h1⟩) .inr) .inr), Lib.hid (BEL8.out _)⟩
          case measure =>
            rw [msr_true (s := sn) (cell_of_row _ _ 0 _ _ (0, 0) (SET8.out _)), HMS.out]
            have := HKN.out.1
            have := HKL.out
            omega
        · have HE := Lib.hid (show nextR 10 s = .returned (.tuple #[.int .i64 ((0 : Nat) : Int), .bool false]) by
            unfold nextR; rw [if_pos (show 2 ^ 10 ≤ nextN 10 s by omega), decide_eq_true (show 2 ^ 10 ≤ nextN 10 s by omega)]; rfl)
          have HKE := Lib.hid (key_end s hs hnx)
          have HKL := Lib.hid (key_lt s hs)
          rw [HE.out]
          go_wp2_with fail
          go_roundw
          case rel => exact ⟨0, _, false, gs, _, rfl, rfl, rfl, by omega, hsz8, Lib.hid (SET8.out 0), Lib.hid (NOD8.out 0), Lib.hid (hSt.out.elim (fun h => HST.out.elim (fun h1 => absurd HKE.out (by omega)) .inr) .inr), Lib.hid (BEL8.out 0)⟩
          case measure =>
            rw [msr_false, HMS.out]
            have := HKL.out
            omega
      · have HBK := Lib.hid hbk
        clear hbk
        have hgs : gs = [] ∨ gs = [6] := hSt.out.elim (fun h => .inl h.1) .inr
        rcases hgs with rfl | rfl
        · have hs6 : s = 6 := by
            rcases hSt.out with ⟨_, _, _, h⟩ | h
            · exact HKB.out.1 HBK.out h
            · cases h
          have hlw : lw = .slice none 0 0 := by
            rcases hSt.out with ⟨_, h, _⟩ | h
            · exact h
            · cases h
          have HS6 := Lib.hid hs6
          clear hs6
          subst hlw
          go_wp2_with fail
          refine (containsLeast_run _ _ [] _ box _ (.inl rfl) HN4.out q4).mono ?_
          rintro e w5 ⟨rfl, rfl⟩
          have hown : W4.ownsRow W2.heap.size 3 1 (.slice none 0 0) 0 [] := World.ownsRow_nil _ _ _ _
          have hb24 : W2.heap.size ≤ W4.heap.size := HB4.out.size
          go_wp2_with (at_builtin; refine wpList_append_own _ rfl _ _ 22 rfl W2.heap.size 3 i0 (.int .i64 0) 1 8 Try.underlying22 hin hz0 hz1 hz2 rfl (by decide) _ _ _ rfl (hown.alloc _) ⟨W4.heap.size, 0, none⟩ 1 1 [.int .i64 (s : Int)] rfl rfl (cell_one_new _ _ _) (fun u hu => by simp at hu; subst hu; rfl) (by unfold maxLen; omega) (by omega) (by simp; omega) ?_; intro v' w6 hown' hgrow hnil; have q6 : w6.cell? ⟨box, 0, none⟩ = some (.int .i64 (s : Int)) := (World.cell?_of_block (a := ⟨box, 0, none⟩) (hgrow.block box (by rw [alloc_sz]; have := cell_lt q4; simp at this; omega) (by intro h; have h' : some box = none := h; cases h'))).trans ((World.cell?_alloc_lt _ _ _ (cell_lt q4)).trans q4))
          have HN6 := Lib.hid (show NodesAt (fun _ => True) w6 v' [6] by
            have h1 := nodes_imp (Q := fun _ => True) (NodesAt.of_own (ns := [(s : Int)]) (by simpa using hown')) (fun _ _ => trivial)
            rw [HS6.out] at h1
            exact h1)
          have HB6 := Lib.hid (Below.grown (balloc HB4.out (.cells #[.int .i64 (s : Int)] 3)) hgrow (by simp; omega) (fun j hj => (hown.lt j hj).1))
          clear hown' hgrow hnil hown q4
          have hsz8 : W2.heap.size ≤ w6.heap.size := HB6.out.size
          go_wp2_with fail
          refine (pnext_run s 10 (by omega) (by omega) _).mono ?_
          rintro e w9 ⟨rfl, rfl⟩
          have SET8 := Lib.hid (fun (x : Int) => (alloc_at rfl : (w6.alloc (.cells #[.int .i64 x] 3)).heap[w6.heap.size]? = some (.cells #[.int .i64 x] 3 (0, 0))))
          have NOD8 := Lib.hid (fun (x : Int) => nodes_bel HN6.out (balloc (bref w6) (.cells #[.int .i64 x] 3)))
          have BEL8 := Lib.hid (fun (x : Int) => balloc HB6.out (.cells #[.int .i64 x] 3))
          rcases Nat.lt_or_ge (nextN 10 s) 1024 with hnx | hnx
          · have HE := Lib.hid (show nextR 10 s = .returned (.tuple #[.int .i64 (nextN 10 s : Int), .bool true]) by
              unfold nextR; rw [if_neg (show ¬ 2 ^ 10 ≤ nextN 10 s by omega), decide_eq_false (show ¬ 2 ^ 10 ≤ nextN 10 s by omega)]; rfl)
            have HKN := Lib.hid (key_next s hs hnx)
            have HKL := Lib.hid (key_lt _ hnx)
            rw [HE.out]
            generalize nextN 10 s = sn at *
            go_wp2_with fail
            go_roundw
            case rel => exact ⟨sn, _, true, [6], _, rfl, rfl, rfl, hnx, hsz8, Lib.hid (SET8.out _), Lib.hid (NOD8.out _), Lib.hid (.inr rfl), Lib.hid (BEL8.out _)⟩
            case measure =>
              rw [msr_true (s := sn) (cell_of_row _ _ 0 _ _ (0, 0) (SET8.out _)), HMS.out]
              have := HKN.out.1
              have := HKL.out
              omega
          · have HE := Lib.hid (show nextR 10 s = .returned (.tuple #[.int .i64 ((0 : Nat) : Int), .bool false]) by
              unfold nextR; rw [if_pos (show 2 ^ 10 ≤ nextN 10 s by omega), decide_eq_true (show 2 ^ 10 ≤ nextN 10 s by omega)]; rfl)
            have HKE := Lib.hid (key_end s hs hnx)
            have HKL := Lib.hid (key_lt s hs)
            rw [HE.out]
            go_wp2_with fail
            go_roundw
            case rel => exact ⟨0, _, false, [6], _, rfl, rfl, rfl, by omega, hsz8, Lib.hid (SET8.out 0), Lib.hid (NOD8.out 0), Lib.hid (.inr rfl), Lib.hid (BEL8.out 0)⟩
            case measure =>
              rw [msr_false, HMS.out]
              have := HKL.out
              omega
        · go_wp2_with fail
          refine (containsLeast_run _ _ [6] _ box _ (.inr ⟨6, rfl, HKB.out.2.1 HBK.out⟩) HN4.out q4).mono ?_
          rintro e w5 ⟨rfl, rfl⟩
          have hsz8 : W2.heap.size ≤ W4.heap.size := HB4.out.size
          go_wp2_with fail
          refine (pnext_run s 10 (by omega) (by omega) _).mono ?_
          rintro e w9 ⟨rfl, rfl⟩
          have SET8 := Lib.hid (fun (x : Int) => (alloc_at rfl : (W4.alloc (.cells #[.int .i64 x] 3)).heap[W4.heap.size]? = some (.cells #[.int .i64 x] 3 (0, 0))))
          have NOD8 := Lib.hid (fun (x : Int) => nodes_bel HN4.out (balloc (bref W4) (.cells #[.int .i64 x] 3)))
          have BEL8 := Lib.hid (fun (x : Int) => balloc HB4.out (.cells #[.int .i64 x] 3))
          rcases Nat.lt_or_ge (nextN 10 s) 1024 with hnx | hnx
          · have HE := Lib.hid (show nextR 10 s = .returned (.tuple #[.int .i64 (nextN 10 s : Int), .bool true]) by
              unfold nextR; rw [if_neg (show ¬ 2 ^ 10 ≤ nextN 10 s by omega), decide_eq_false (show ¬ 2 ^ 10 ≤ nextN 10 s by omega)]; rfl)
            have HKN := Lib.hid (key_next s hs hnx)
            have HKL := Lib.hid (key_lt _ hnx)
            rw [HE.out]
            generalize nextN 10 s = sn at *
            go_wp2_with fail
            go_roundw
            case rel => exact ⟨sn, _, true, [6], _, rfl, rfl, rfl, hnx, hsz8, Lib.hid (SET8.out _), Lib.hid (NOD8.out _), Lib.hid (.inr rfl), Lib.hid (BEL8.out _)⟩
            case measure =>
              rw [msr_true (s := sn) (cell_of_row _ _ 0 _ _ (0, 0) (SET8.out _)), HMS.out]
              have := HKN.out.1
              have := HKL.out
              omega
          · have HE := Lib.hid (show nextR 10 s = .returned (.tuple #[.int .i64 ((0 : Nat) : Int), .bool false]) by
              unfold nextR; rw [if_pos (show 2 ^ 10 ≤ nextN 10 s by omega), decide_eq_true (show 2 ^ 10 ≤ nextN 10 s by omega)]; rfl)
            have HKE := Lib.hid (key_end s hs hnx)
            have HKL := Lib.hid (key_lt s hs)
            rw [HE.out]
            go_wp2_with fail
            go_roundw
            case rel => exact ⟨0, _, false, [6], _, rfl, rfl, rfl, by omega, hsz8, Lib.hid (SET8.out 0), Lib.hid (NOD8.out 0), Lib.hid (.inr rfl), Lib.hid (BEL8.out 0)⟩
            case measure =>
              rw [msr_false, HMS.out]
              have := HKL.out
              omega

theorem th_2 : ∀ k, k < 3 → Nat.testBit 2 k = false → blkM 1 thM 2 k = false := by decide +kernel

theorem th_7 : ∀ k, k < 3 → Nat.testBit 7 k = true := by decide +kernel

theorem th_60 : ∀ k, k < 3 → Nat.testBit 6 k = false → k = 0 := by decide +kernel

theorem cas_2 {gs : List Int} {C : Nat} (h : CasR 1 thM 2 gs C) : gs = [] ∧ C = 2 := h.none (fun k hk hb => th_2 k hk hb)

theorem cas_6 {gs : List Int} {C : Nat} (h : CasR 1 thM 6 gs C) (hc : IsCas 1 thM 6 C) : gs = [0] ∧ C = 7 := by
  cases gs with
  | nil =>
    obtain rfl : C = 6 := h
    have := hc.closed 0 (by decide) (by decide)
    rw [blk_6] at this
    cases this
  | cons x l =>
    obtain ⟨k, rfl, hk, hb, _, h2⟩ := h
    obtain rfl := th_60 k hk hb
    have h7 : CasR 1 thM 7 l C := h2
    obtain ⟨rfl, rfl⟩ := h7.none (fun k hk hb => by
      have := th_7 k hk
      rw [hb] at this; cases this)
    exact ⟨rfl, rfl⟩

set_option maxRecDepth 100000 in
set_option maxHeartbeats 4000000 in
theorem awake11 (w : World) : Calls Try.prog 8 #[] w fun e w' => e = .returned (.bool true) ∧ Below w.heap.size w w' := by
  have hl : thM.length ≤ 10 := by decide
  go_enter Try.func8, Try.ntmps8
  go_wp2_with fail
  refine (three11_run _).mono ?_
  rintro e w1 ⟨v1, rfl, hm1, hb1⟩
  go_wp2_with fail
  refine (least11_run _ _ _ hm1).mono ?_
  rintro e w2 ⟨lv, rfl, hN2, hb2⟩
  have HB2 := Lib.hid (bstep hb1 hb2)
  have HN2 := Lib.hid hN2
  obtain ⟨A2, c2, hlv⟩ : ∃ A c, lv = .slice A 1 c := by
    obtain ⟨A, c, h1, _⟩ := hN2
    exact ⟨A, c, h1⟩
  subst hlv
  clear hm1 hb1 hb2 hN2
  go_wp2_with fail
  refine (three11_run _).mono ?_
  rintro e w3 ⟨v3, rfl, hm3, hb3⟩
  go_wp2_with fail
  refine (cascade_run _ 1 thM _ 6 _ hl (by omega) hm3).mono ?_
  rintro e w4 ⟨gv, gs, C, rfl, hN4, _, _, hcr, hic, hb4⟩
  obtain ⟨rfl, rfl⟩ := cas_6 hcr hic
  have HB4 := Lib.hid (bstep (bstep HB2.out hb3) hb4)
  have HN4 := Lib.hid hN4
  have HN24 := Lib.hid (nodes_bel (nodes_bel HN2.out hb3) hb4)
  obtain ⟨A4, c4, hgv⟩ : ∃ A c, gv = .slice A 1 c := by
    obtain ⟨A, c, h1, _⟩ := hN4
    exact ⟨A, c, h1⟩
  subst hgv
  clear hm3 hb3 hb4 hN4 hcr hic HN2
  go_wp2_with fail
  refine (three11_run _).mono ?_
  rintro e w5 ⟨v5, rfl, hm5, hb5⟩
  go_wp2_with fail
  refine (cascade_run _ 1 thM _ 2 _ hl (by omega) hm5).mono ?_
  rintro e w6 ⟨gv, gs, C, rfl, hN6, _, _, hcr, _, hb6⟩
  obtain ⟨rfl, rfl⟩ := cas_2 hcr
  have HB6 := Lib.hid (bstep (bstep HB4.out hb5) hb6)
  have HN46 := Lib.hid (nodes_bel (nodes_bel HN4.out hb5) hb6)
  have HN26 := Lib.hid (nodes_bel (nodes_bel HN24.out hb5) hb6)
  obtain ⟨A6, c6, hgv⟩ : ∃ A c, gv = .slice A 0 c := by
    obtain ⟨A, c, h1, _⟩ := hN6
    exact ⟨A, c, h1⟩
  subst hgv
  clear hm5 hb5 hb6 hN6 hcr HN4 HN24
  go_wp2_with fail
  have hone : ∀ (W : World) (x : Int), NodesAt (fun _ => True) (W.alloc (.cells #[.int .i64 x] 3)) (.slice (some ⟨W.heap.size, 0, none⟩) 1 1) [x] := fun W x =>
    ⟨some ⟨W.heap.size, 0, none⟩, 1, rfl, fun k hk => ⟨W.heap.size, 0, rfl, trivial, by
      obtain rfl : k = 0 := by simpa using hk
      exact (cell_of_row _ _ 0 #[.int .i64 x] 3 (0, 0) (heap_alloc_new _ _)).trans rfl⟩⟩
  have HONE := Lib.hid hone
  clear hone
  refine (ints_run _ _ _ _ [6] _ (by decide) (nodes_bel HN26.out (balloc (bref _) _)) (HONE.out _ 6)).mono ?_
  rintro e w7 ⟨rfl, hb7⟩
  have HB7 := Lib.hid (bstep (balloc HB6.out (.cells #[.int .i64 6] 3)) hb7)
  have HN47 := Lib.hid (nodes_bel (nodes_bel HN46.out (balloc (bref w6) (.cells #[.int .i64 6] 3))) hb7)
  clear hb7 HN46 HN26
  go_wp2_with fail
  refine (ints_run _ _ _ _ [0] _ (by decide) (nodes_bel HN47.out (balloc (bref _) _)) (HONE.out _ 0)).mono ?_
  rintro e w8 ⟨rfl, hb8⟩
  have HB8 := Lib.hid (bstep (balloc HB7.out (.cells #[.int .i64 0] 3)) hb8)
  clear hb8 HN47
  go_wp2_with fail
  refine (three11_run _).mono ?_
  rintro e w9 ⟨v9, rfl, hm9, hb9⟩
  go_wp2_with fail
  refine (blocks_run _ 1 thM _ 0 6 _ hl (by omega) (by omega) hm9).mono ?_
  rintro e w10 ⟨rfl, hb10⟩
  rw [blk_6]
  have HB10 := Lib.hid (bstep (bstep HB8.out hb9) hb10)
  clear hm9 hb9 hb10
  go_wp2_with fail
  go_ret
  exact ⟨rfl, HB10.out⟩

end Go.Proofs.Ytnfdacfhhkahhaa
