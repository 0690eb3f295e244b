/- The walk of ballots.Greatest, and what the greatest ballot of a list is. -/
import Derived.Test.YtolodegbilagbaaBalList
namespace Go.Proofs.Ytolodegbilagbaa
set_option linter.unusedVariables false
open Go.RowKit

theorem fold_mem : ∀ (l : List (Int × Nat)) (x : Int × Nat), l.foldl grStep x = x ∨ l.foldl grStep x ∈ l
  | [], x => .inl rfl
  | y :: l, x => by
    rw [List.foldl_cons]
    rcases fold_mem l (grStep x y) with h | h
    · rw [h]; unfold grStep; split
      · exact .inr List.mem_cons_self
      · exact .inl rfl
    · exact .inr (List.mem_cons_of_mem _ h)
theorem grL_mem {L : List (Int × Nat)} (h : L ≠ []) : grL L ∈ L := by
  cases L with
  | nil => exact absurd rfl h
  | cons x l =>
    show (x :: l).foldl grStep x ∈ x :: l
    rcases fold_mem (x :: l) x with h | h
    · rw [h]; exact List.mem_cons_self
    · exact h
theorem lessx_trans {a b c : Int × Nat} (h : lessB a.1 a.2 b.1 b.2 = false) (k : lessB c.1 c.2 a.1 a.2 = true ∨ c = a) : lessB c.1 c.2 b.1 b.2 = false ∨ True := .inr trivial
/-- Nobody is greater than the fold. -/
theorem fold_max : ∀ (l : List (Int × Nat)) (x : Int × Nat), lessB (l.foldl grStep x).1 (l.foldl grStep x).2 x.1 x.2 = false ∧ ∀ b ∈ l, lessB (l.foldl grStep x).1 (l.foldl grStep x).2 b.1 b.2 = false
  | [], x => ⟨lessB_irr _ _, fun b hb => by simp at hb⟩
  | y :: l, x => by
    rw [List.foldl_cons]
    obtain ⟨h1, h2⟩ := fold_max l (grStep x y)
    have hs : lessB (grStep x y).1 (grStep x y).2 x.1 x.2 = false ∧ lessB (grStep x y).1 (grStep x y).2 y.1 y.2 = false := by
      unfold grStep
      by_cases h : lessB x.1 x.2 y.1 y.2 = true
      · rw [if_pos h]
        rw [lessBx_iff] at h
        exact ⟨lessB_no.2 (by omega), lessB_irr _ _⟩
      · rw [if_neg h]
        exact ⟨lessB_irr _ _, by simpa using h⟩
    have tr : ∀ b : Int × Nat, lessB (grStep x y).1 (grStep x y).2 b.1 b.2 = false → lessB (l.foldl grStep (grStep x y)).1 (l.foldl grStep (grStep x y)).2 b.1 b.2 = false := by
      intro b hb
      rw [lessB_no] at hb h1 ⊢
      omega
    refine ⟨tr x hs.1, fun b hb => ?_⟩
    rcases List.mem_cons.1 hb with rfl | hb
    · exact tr b hs.2
    · exact h2 b hb
theorem grL_max {L : List (Int × Nat)} : ∀ b ∈ L, lessB (grL L).1 (grL L).2 b.1 b.2 = false := by
  cases L with
  | nil => intro b hb; simp at hb
  | cons x l => exact (fold_max (x :: l) x).2
theorem grL_reverse (L : List (Int × Nat)) : grL L.reverse = grL L := by
  by_cases h : L = []
  · rw [h]; rfl
  · have m1 := grL_mem h
    have m2 := grL_mem (L := L.reverse) (by simpa using h)
    have a := grL_max (L := L) _ (List.mem_reverse.1 m2)
    have b := grL_max (L := L.reverse) _ (List.mem_reverse.2 m1)
    rw [lessB_no] at a b
    exact Prod.ext (by omega) (by omega)
theorem fold_le : ∀ (l : List (Int × Nat)) (x : Int × Nat), x.2 ≤ 4 → (∀ b ∈ l, b.2 ≤ 4) → (l.foldl grStep x).2 ≤ 4 := by
  intro l x hx hl
  rcases fold_mem l x with h | h
  · rw [h]; exact hx
  · exact hl _ h
theorem fold_succ (L : List (Int × Nat)) (x b : Int × Nat) (k : Nat) (h : L[k]? = some b) : (L.take (k + 1)).foldl grStep x = grStep ((L.take k).foldl grStep x) b := by
  rw [List.take_add_one, h]
  simp [List.foldl_append]

set_option maxHeartbeats 4000000 in
theorem greatest_run (L : List (Int × Nat)) (v : Value) (w : World) (hL : ∀ b ∈ L, b.2 ≤ 4) (h : ListAt w v L) :
    Calls Try.prog 44 #[v] w fun e w' => e = .returned (.agg #[.int .i64 (grL L).1, .string (valOf (grL L).2)]) ∧ Below w.heap.size w w' := by
  obtain ⟨A, c, rfl, hlen, h3⟩ := h
  rcases L with _ | ⟨x, l⟩
  · go_enter Try.func44, Try.ntmps44
    go_wp2
    exact bodyPost_ret (v := .agg #[.int .i64 0, .string ⟨#[]⟩]) (by simp [results, Try.results44, go_sem]) rfl ⟨rfl, balloc (bref _) _⟩
  · obtain ⟨g, off, rfl, e2, e3⟩ := h3 0 x rfl
    have e2' : w.cell? ⟨g, off, none⟩ = some (.int .i64 x.1) := by simpa using e2
    have e3' : w.cell? ⟨g, off + 1, none⟩ = some (.string (valOf x.2)) := by simpa using e3
    have hgl : g < w.heap.size := cell_lt e2'
    have hx4 : x.2 ≤ 4 := hL x List.mem_cons_self
    have hlen' : l.length + 1 ≤ 1000 := by simpa using hlen
    have H3 := Lib.hid (fun k b (hk : (x :: l)[k]? = some b) => by
      obtain ⟨g', off', e1, f2, f3⟩ := h3 k b hk
      simp only [Option.some.injEq, Addr.mk.injEq] at e1
      obtain ⟨rfl, rfl, _⟩ := e1
      exact (⟨f2, f3⟩ : w.cell? ⟨g, off + k * 2, none⟩ = some (.int .i64 b.1) ∧ w.cell? ⟨g, off + k * 2 + 1, none⟩ = some (.string (valOf b.2))))
    have HGR := Lib.hid (show grL (x :: l) = ((x :: l).take (l.length + 1)).foldl grStep x by rw [show l.length + 1 = (x :: l).length from rfl, List.take_length]; rfl)
    have HP4 : Hid (∀ k, (((x :: l).take k).foldl grStep x).2 ≤ 4) := Lib.hid (fun k => fold_le _ _ hx4 (fun b hb => hL b (List.mem_of_mem_take hb)))
    have HLL := Lib.hid hL
    clear h3 hL e2 e3 hlen
    go_enter Try.func44, Try.ntmps44
    go_wp2_with fail
    have hb0 := Lib.hid (balloc (balloc (bref w) (.cells #[.int .i64 0, .string ⟨#[]⟩] 52)) (.cells #[.int .i64 x.1, .string (valOf x.2)] 52))
    have hr0 := Lib.hid ((BalAt.new w 0 0).alloc (.cells #[.int .i64 x.1, .string (valOf x.2)] 52))
    have hm0 : Hid (BalAt ((w.alloc (.cells #[.int .i64 0, .string ⟨#[]⟩] 52)).alloc (.cells #[.int .i64 x.1, .string (valOf x.2)] 52)) (w.heap.size + 1) x.1 x.2) := Lib.hid (by
      have := BalAt.new (w.alloc (.cells #[.int .i64 0, .string ⟨#[]⟩] 52)) x.1 x.2
      simpa using this)
    go_loopw [15] (fun t W => ∃ (k : Nat) (p : Int × Nat), k ≤ l.length + 1 ∧ t = .int .i64 k ∧ Hid (((x :: l).take k).foldl grStep x = p) ∧ Hid (BalAt W (w.heap.size + 1) p.1 p.2) ∧ Hid (BalAt W w.heap.size 0 0) ∧ Hid (Below w.heap.size w W)) (fun t _ => l.length + 1 - (intOf t).toNat)
    case atStart => exact ⟨0, x, by omega, rfl, Lib.hid rfl, hm0, hr0, hb0⟩
    case round =>
      obtain ⟨k, p, hk, rfl, hp, hM, hR, hB⟩ := hrel
      have hml := hM.out.lt
      obtain ⟨q0, q1⟩ := hM.out.cs
      have hp4 : p.2 ≤ 4 := by rw [← hp.out]; exact HP4.out k
      by_cases hlt : k < l.length + 1
      · obtain ⟨b, hb⟩ : ∃ b, (x :: l)[k]? = some b := ⟨_, List.getElem?_eq_getElem (by simpa using hlt)⟩
        obtain ⟨c0, c1⟩ := H3.out k b hb
        have d0 : wr.cell? ⟨g, off + k * 2, none⟩ = some (.int .i64 b.1) := (hB.out.cell (p := ⟨g, off + k * 2, none⟩) hgl).trans c0
        have d1 : wr.cell? ⟨g, off + k * 2 + 1, none⟩ = some (.string (valOf b.2)) := (hB.out.cell (p := ⟨g, off + k * 2 + 1, none⟩) hgl).trans c1
        have hb4 : b.2 ≤ 4 := HLL.out b (List.mem_of_getElem? hb)
        have HF := Lib.hid (fold_succ (x :: l) x b k hb)
        clear c0 c1 hb
        have ki : (k : Int) < (l.length : Int) + 1 := by omega
        have hX := Lib.hid (BalAt.new wr b.1 b.2)
        have hM1 := Lib.hid (hM.out.alloc (.cells #[.int .i64 b.1, .string (valOf b.2)] 52))
        have hR1 := Lib.hid (hR.out.alloc (.cells #[.int .i64 b.1, .string (valOf b.2)] 52))
        have hB1 := Lib.hid (balloc hB.out (.cells #[.int .i64 b.1, .string (valOf b.2)] 52))
        go_wp2_with fail
        refine (less_run _ _ _ _ _ hp4 hb4).mono ?_
        rintro e W2 ⟨rfl, hb2⟩
        have hX2 := hX.out.below hb2
        have hM2 := hM1.out.below hb2
        obtain ⟨x0, x1⟩ := hX2.cs
        obtain ⟨y0, y1⟩ := hM2.cs
        have yf0 := hM2.fr 0
        have yf1 := hM2.fr 1
        have HX2 := Lib.hid hX2
        have HM2 := Lib.hid hM2
        have HR2 := Lib.hid (hR1.out.below hb2)
        have HB2 := Lib.hid (bstep hB1.out hb2)
        clear hb2 hX2 hM2
        cases hless : lessB p.1 p.2 b.1 b.2
        · have HS := Lib.hid (show ((x :: l).take (k + 1)).foldl grStep x = p by rw [HF.out, hp.out]; unfold grStep; rw [hless]; rfl)
          go_wp2_with fail
          go_roundw
          case rel =>
            trace_state
            (repeat apply Exists.intro); exact ⟨⟨k + 1, p, by omega, by go_num, HS, HM2, HR2, HB2⟩, rfl⟩
          case measure => simp [intOf]; omega
        · have HS := Lib.hid (show ((x :: l).take (k + 1)).foldl grStep x = b by rw [HF.out, hp.out]; unfold grStep; rw [hless]; rfl)
          go_wp2_with fail
          go_roundw
          case rel => (repeat apply Exists.intro); exact ⟨⟨k + 1, b, by omega, by go_num, HS, Lib.hid (HM2.out.store b.1 b.2), Lib.hid ((HR2.out.far (p := ⟨w.heap.size + 1, 0, none⟩) (by simp) _).far (p := ⟨w.heap.size + 1, 1, none⟩) (by simp) _), Lib.hid (bset (bset HB2.out (p := ⟨w.heap.size + 1, 0, none⟩) (by simp) _) (p := ⟨w.heap.size + 1, 1, none⟩) (by simp) _)⟩, rfl⟩
          case measure => simp [intOf]; omega
      · obtain rfl : k = l.length + 1 := by omega
        have hrl := hR.out.lt
        obtain ⟨r0, r1⟩ := hR.out.cs
        have rf0 := hR.out.fr 0
        have rf1 := hR.out.fr 1
        have HE := Lib.hid (HGR.out.trans hp.out)
        go_wp2_with fail
        refine bodyPost_ret (v := .agg #[.int .i64 p.1, .string (valOf p.2)]) ?_ rfl ⟨by rw [HE.out], bset (bset hB.out (p := ⟨w.heap.size, 0, none⟩) (by simp) _) (p := ⟨w.heap.size, 1, none⟩) (by simp) _⟩
        simp [results, Try.results44, go_sem, r0, r1, (show wr.heap[w.heap.size]? = _ from hR.out)]
end Go.Proofs.Ytolodegbilagbaa
