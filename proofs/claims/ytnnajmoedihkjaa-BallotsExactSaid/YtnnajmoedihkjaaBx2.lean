/- Lists of any ballots: Greatest of both packages, and short. -/
import Derived.Test.YtnnajmoedihkjaaBx
import Derived.Test.YtnnajmoedihkjaaRowS
import Derived.Test.YtnnajmoedihkjaaCs
import Derived.Deep.DeepCutAuto
import Derived.Deep.CutBlock
import Derived.Deep.CutRange
namespace Go.Proofs.Ytnnajmoedihkjaa
set_option linter.unusedVariables false
set_option linter.unusedSimpArgs false
open Go.RowKit

def encB (b : Int × ByteArray) : List Value := [.int .i64 b.1, .string b.2]
abbrev BRow (w : World) (v : Value) (L : List (Int × ByteArray)) : Prop := RowAt 2 encB (fun _ => True) w v L
/-- A ballot by itself in a block. -/
def BalX (w : World) (g : Nat) (c : Int) (i : ByteArray) : Prop := w.heap[g]? = some (.cells #[.int .i64 c, .string (i)] 25 (0, 0))
theorem BalX.lt {w : World} {g : Nat} {c : Int} {i : ByteArray} (h : BalX w g c i) : g < w.heap.size := by
  rcases Nat.lt_or_ge g w.heap.size with h1 | h1
  · exact h1
  · unfold BalX at h; rw [Array.getElem?_eq_none h1] at h; cases h
theorem BalX.cs {w : World} {g : Nat} {c : Int} {i : ByteArray} (h : BalX w g c i) : w.cell? ⟨g, 0, none⟩ = some (.int .i64 c) ∧ w.cell? ⟨g, 1, none⟩ = some (.string (i)) :=
  ⟨cell_of_row _ _ 0 _ _ (0, 0) h, cell_of_row _ _ 1 _ _ (0, 0) h⟩
theorem BalX.fr {w : World} {g : Nat} {c : Int} {i : ByteArray} (h : BalX w g c i) (k : Nat) : w.frozen? ⟨g, k, none⟩ = false := by
  unfold BalX at h
  simp [World.frozen?, h]
theorem BalX.below {w w' : World} {g : Nat} {c : Int} {i : ByteArray} (h : BalX w g c i) (hb : Below w.heap.size w w') : BalX w' g c i := (hb.block g h.lt).trans h
theorem BalX.grown {w w' : World} {g sb : Nat} {c : Int} {i : ByteArray} (h : BalX w g c i) (hb : w.grownBy w' (some sb)) (hne : g ≠ sb) : BalX w' g c i := (hb.block g h.lt (by simpa using hne)).trans h
theorem BalX.alloc {w : World} {g : Nat} {c : Int} {i : ByteArray} (h : BalX w g c i) (o : Obj) : BalX (w.alloc o) g c i := h.below (balloc (bref _) _)
theorem BalX.new (w : World) (c : Int) (i : ByteArray) : BalX (w.alloc (.cells #[.int .i64 c, .string (i)] 25)) w.heap.size c i := heap_alloc_new _ _
theorem BalX.drewN {w : World} {g : Nat} {c : Int} {i : ByteArray} (h : BalX w g c i) (n : Nat) : BalX (w.drewN n) g c i := h
theorem BalX.far {w : World} {g : Nat} {c : Int} {i : ByteArray} (h : BalX w g c i) {p : Addr} (hp : g ≠ p.block) (u : Value) : BalX (w.setCell p u) g c i := (Below.heap_setCell w p u g hp).trans h
theorem BalX.store {w : World} {g : Nat} {c : Int} {i : ByteArray} (h : BalX w g c i) (d : Int) (j : ByteArray) : BalX ((w.setCell ⟨g, 0, none⟩ (.int .i64 d)).setCell ⟨g, 1, none⟩ (.string (j))) g d j := by
  unfold BalX at h ⊢
  simp [World.setCell, Array.getElem?_modify, h]
theorem BalX.store1 {w : World} {g : Nat} {c : Int} {i : ByteArray} (h : BalX w g c i) (d : Int) : BalX (w.setCell ⟨g, 0, none⟩ (.int .i64 d)) g d i := by
  unfold BalX at h ⊢
  simp [World.setCell, Array.getElem?_modify, h]

def grSx (a b : Int × ByteArray) : Int × ByteArray := if lessX a.1 a.2 b.1 b.2 = true then b else a
def grX : List (Int × ByteArray) → Int × ByteArray
  | [] => (0, ⟨#[]⟩)
  | x :: l => (x :: l).foldl grSx x
theorem fold_sx (L : List (Int × ByteArray)) (x b : Int × ByteArray) (k : Nat) (h : L[k]? = some b) : (L.take (k + 1)).foldl grSx x = grSx ((L.take k).foldl grSx x) b := by
  rw [List.take_add_one, h]
  simp [List.foldl_append]
theorem grSx_self (x : Int × ByteArray) : grSx x x = x := by
  unfold grSx
  split <;> rfl

set_option maxHeartbeats 4000000 in
theorem greatest_x (L : List (Int × ByteArray)) (v : Value) (w : World) (hlen : L.length ≤ 1000) (h : BRow w v L) :
    Calls Try.prog 8 #[v] w fun e w' => e = .returned (.agg #[.int .i64 (grX L).1, .string ((grX L).2)]) ∧ Below w.heap.size w w' := by
  obtain ⟨A, c, rfl, _, _, h3⟩ := h
  rcases L with _ | ⟨x, l⟩
  · go_enter Try.func8, Try.ntmps8
    go_wp2
    exact bodyPost_ret (v := .agg #[.int .i64 0, .string ⟨#[]⟩]) (by simp [results, Try.results8, go_sem]) rfl ⟨rfl, balloc (bref _) _⟩
  · obtain ⟨g, off, rfl, _, _, e23⟩ := h3 0 x rfl
    have e2 := e23 0 _ rfl
    have e3 := e23 1 _ rfl
    clear e23
    have e2' : w.cell? ⟨g, off, none⟩ = some (.int .i64 x.1) := by simpa using e2
    have e3' : w.cell? ⟨g, off + 1, none⟩ = some (.string (x.2)) := by simpa using e3
    have hgl : g < w.heap.size := cell_lt e2'
    have hlen' : l.length + 1 ≤ 1000 := by simpa using hlen
    have H3 := Lib.hid (fun k b (hk : (x :: l)[k]? = some b) => by
      obtain ⟨g', off', e1, _, _, f23⟩ := h3 k b hk
      have f2 := f23 0 _ rfl
      have f3 := f23 1 _ rfl
      simp only [Option.some.injEq, Addr.mk.injEq] at e1
      obtain ⟨rfl, rfl, _⟩ := e1
      exact (⟨by simpa using f2, f3⟩ : w.cell? ⟨g, off + k * 2, none⟩ = some (.int .i64 b.1) ∧ w.cell? ⟨g, off + k * 2 + 1, none⟩ = some (.string (b.2))))
    have HGR := Lib.hid (show grX (x :: l) = ((x :: l).take (l.length + 1)).foldl grSx x by rw [show l.length + 1 = (x :: l).length from rfl, List.take_length]; rfl)
    clear h3 e2 e3 hlen
    go_enter Try.func8, Try.ntmps8
    go_wp2_with fail
    have hb0 := Lib.hid (balloc (balloc (bref w) (.cells #[.int .i64 0, .string ⟨#[]⟩] 25)) (.cells #[.int .i64 x.1, .string (x.2)] 25))
    have hr0 := Lib.hid ((BalX.new w 0 ⟨#[]⟩).alloc (.cells #[.int .i64 x.1, .string (x.2)] 25))
    have hm0 : Hid (BalX ((w.alloc (.cells #[.int .i64 0, .string ⟨#[]⟩] 25)).alloc (.cells #[.int .i64 x.1, .string (x.2)] 25)) (w.heap.size + 1) x.1 x.2) := Lib.hid (by
      have := BalX.new (w.alloc (.cells #[.int .i64 0, .string ⟨#[]⟩] 25)) x.1 x.2
      simpa using this)
    go_loopw [15] (fun t W => ∃ (k : Nat) (p : Int × ByteArray), k ≤ l.length + 1 ∧ t = .int .i64 k ∧ Hid (((x :: l).take k).foldl grSx x = p) ∧ Hid (BalX W (w.heap.size + 1) p.1 p.2) ∧ Hid (BalX W w.heap.size 0 ⟨#[]⟩) ∧ Hid (Below w.heap.size w W)) (fun t _ => l.length + 1 - (intOf t).toNat)
    case atStart => exact ⟨0, x, by omega, rfl, Lib.hid rfl, hm0, hr0, hb0⟩
    case round =>
      obtain ⟨k, p, hk, rfl, hp, hM, hR, hB⟩ := hrel
      have hml := hM.out.lt
      obtain ⟨q0, q1⟩ := hM.out.cs
      by_cases hlt : k < l.length + 1
      · obtain ⟨b, hb⟩ : ∃ b, (x :: l)[k]? = some b := ⟨_, List.getElem?_eq_getElem (by simpa using hlt)⟩
        obtain ⟨c0, c1⟩ := H3.out k b hb
        have d0 : wr.cell? ⟨g, off + k * 2, none⟩ = some (.int .i64 b.1) := (hB.out.cell (p := ⟨g, off + k * 2, none⟩) hgl).trans c0
        have d1 : wr.cell? ⟨g, off + k * 2 + 1, none⟩ = some (.string (b.2)) := (hB.out.cell (p := ⟨g, off + k * 2 + 1, none⟩) hgl).trans c1
        have HF := Lib.hid (fold_sx (x :: l) x b k hb)
        clear c0 c1 hb
        have ki : (k : Int) < (l.length : Int) + 1 := by omega
        have hX := Lib.hid (BalX.new wr b.1 b.2)
        have hM1 := Lib.hid (hM.out.alloc (.cells #[.int .i64 b.1, .string (b.2)] 25))
        have hR1 := Lib.hid (hR.out.alloc (.cells #[.int .i64 b.1, .string (b.2)] 25))
        have hB1 := Lib.hid (balloc hB.out (.cells #[.int .i64 b.1, .string (b.2)] 25))
        go_wp2_with fail
        refine (less_s _ _ _ _ _).mono ?_
        rintro e W2 ⟨rfl, hb2⟩
        have hX2 := hX.out.below hb2
        have hM2 := hM1.out.below hb2
        obtain ⟨x0, x1⟩ := hX2.cs
        obtain ⟨y0, y1⟩ := hM2.cs
        have yf0 := hM2.fr 0
        have yf1 := hM2.fr 1
        have HX2 := Lib.hid hX2
        have HM2 := Lib.hid hM2
        have HR2 := Lib.hid (hR1.out.below hb2)
        have HB2 := Lib.hid (bstep hB1.out hb2)
        clear hb2 hX2 hM2
        cases hless : lessX p.1 p.2 b.1 b.2
        · have HS := Lib.hid (show ((x :: l).take (k + 1)).foldl grSx x = p by rw [HF.out, hp.out]; unfold grSx; rw [hless]; rfl)
          go_wp2_with fail
          go_roundw
          case rel =>
            (repeat apply Exists.intro); exact ⟨⟨k + 1, p, by omega, by go_num, HS, HM2, HR2, HB2⟩, rfl⟩
          case measure => simp [intOf]; omega
        · have HS := Lib.hid (show ((x :: l).take (k + 1)).foldl grSx x = b by rw [HF.out, hp.out]; unfold grSx; rw [hless]; rfl)
          go_wp2_with fail
          go_roundw
          case rel => (repeat apply Exists.intro); exact ⟨⟨k + 1, b, by omega, by go_num, HS, Lib.hid (HM2.out.store b.1 b.2), Lib.hid ((HR2.out.far (p := ⟨w.heap.size + 1, 0, none⟩) (by simp) _).far (p := ⟨w.heap.size + 1, 1, none⟩) (by simp) _), Lib.hid (bset (bset HB2.out (p := ⟨w.heap.size + 1, 0, none⟩) (by simp) _) (p := ⟨w.heap.size + 1, 1, none⟩) (by simp) _)⟩, rfl⟩
          case measure => simp [intOf]; omega
      · obtain rfl : k = l.length + 1 := by omega
        have hrl := hR.out.lt
        obtain ⟨r0, r1⟩ := hR.out.cs
        have rf0 := hR.out.fr 0
        have rf1 := hR.out.fr 1
        have HE := Lib.hid (HGR.out.trans hp.out)
        go_wp2_with fail
        refine bodyPost_ret (v := .agg #[.int .i64 p.1, .string (p.2)]) ?_ rfl ⟨by rw [HE.out], bset (bset hB.out (p := ⟨w.heap.size, 0, none⟩) (by simp) _) (p := ⟨w.heap.size, 1, none⟩) (by simp) _⟩
        simp [results, Try.results8, go_sem, r0, r1, (show wr.heap[w.heap.size]? = _ from hR.out)]

set_option maxRecDepth 100000 in
set_option maxHeartbeats 4000000 in
theorem rgreatest_x (L : List (Int × ByteArray)) (v : Value) (w : World) (hlen : L.length ≤ 1000) (h : BRow w v L) :
    Calls Try.prog 9 #[v] w fun e w' => e = .returned (.agg #[.int .i64 (grX L).1, .string (grX L).2]) ∧ Below w.heap.size w w' := by
  obtain ⟨A, c, rfl, hc, hm⟩ := h.slice
  have H := Lib.hid h
  obtain ⟨n, hn⟩ : ∃ n, L.length = n := ⟨_, rfl⟩
  rw [hn] at hlen H hc ⊢
  have HN := Lib.hid hn
  have hb0 := Lib.hid (balloc (balloc (bref w) (.cells #[.int .i64 0, .string ⟨#[]⟩] 25)) (.cells #[.int .i64 0, .string ⟨#[]⟩] 25))
  have hr0 := Lib.hid ((BalX.new w 0 ⟨#[]⟩).alloc (.cells #[.int .i64 0, .string ⟨#[]⟩] 25))
  have hm0 : Hid (BalX ((w.alloc (.cells #[.int .i64 0, .string ⟨#[]⟩] 25)).alloc (.cells #[.int .i64 0, .string ⟨#[]⟩] 25)) (w.heap.size + 1) 0 ⟨#[]⟩) := Lib.hid (by
    have := BalX.new (w.alloc (.cells #[.int .i64 0, .string ⟨#[]⟩] 25)) 0 ⟨#[]⟩
    simpa using this)
  have HG0 := Lib.hid (show grX ([] : List (Int × ByteArray)) = (0, ⟨#[]⟩) from rfl)
  clear h hn
  go_enter Try.func9, Try.ntmps9
  go_wp2_with fail
  go_loopw [8] (fun t W => ∃ (k : Nat) (p : Int × ByteArray), k ≤ n ∧ t = .int .i64 k ∧ Hid (grX (L.take k) = p) ∧ Hid (BalX W (w.heap.size + 1) p.1 p.2) ∧ Hid (BalX W w.heap.size 0 ⟨#[]⟩) ∧ Hid (Below w.heap.size w W)) (fun t _ => n - (intOf t).toNat)
  case atStart => exact ⟨0, (0, ⟨#[]⟩), by omega, rfl, Lib.hid rfl, hm0, hr0, hb0⟩
  case round =>
    obtain ⟨k, p, hk, rfl, hp, hM, hR, hB⟩ := hrel
    have hml := hM.out.lt
    by_cases hlt : k < n
    · obtain ⟨b, hb⟩ : ∃ b, L[k]? = some b := ⟨_, List.getElem?_eq_getElem (by rw [HN.out]; exact hlt)⟩
      obtain ⟨g, off, rfl, _, _, e23⟩ := (H.out.below hB.out).at_ hb
      have d0 : wr.cell? ⟨g, off + k * 2, none⟩ = some (.int .i64 b.1) := e23 0 _ rfl
      have d1 : wr.cell? ⟨g, off + k * 2 + 1, none⟩ = some (.string b.2) := e23 1 _ rfl
      clear e23
      have hX := Lib.hid (BalX.new wr b.1 b.2)
      have hM1 := Lib.hid (hM.out.alloc (.cells #[.int .i64 b.1, .string b.2] 25))
      have hR1 := Lib.hid (hR.out.alloc (.cells #[.int .i64 b.1, .string b.2] 25))
      have hB1 := Lib.hid (balloc hB.out (.cells #[.int .i64 b.1, .string b.2] 25))
      rcases Nat.eq_zero_or_pos k with h0 | hpos
      · have HS := Lib.hid (show grX (L.take (k + 1)) = b by
          subst h0
          rw [List.take_add_one, hb]
          show (grX [b]) = b
          exact grSx_self b)
        have q0 : ((k : Int) == 0) = true := by simp [h0]
        clear hb h0
        go_upto_region 5 with fail
        generalize wr.alloc (.cells #[.int .i64 b.1, .string b.2] 25) = W1 at *
        generalize wr.heap.size = xb at *
        obtain ⟨x0, x1⟩ := hX.out.cs
        obtain ⟨y0, y1⟩ := hM1.out.cs
        have yf0 := hM1.out.fr 0
        have yf1 := hM1.out.fr 1
        go_wp2_with fail
        go_roundw
        case rel => exact ⟨k + 1, b, by omega, by go_num, HS, Lib.hid (hM1.out.store b.1 b.2), Lib.hid ((hR1.out.far (p := ⟨w.heap.size + 1, 0, none⟩) (by simp) _).far (p := ⟨w.heap.size + 1, 1, none⟩) (by simp) _), Lib.hid (bset (bset hB1.out (p := ⟨w.heap.size + 1, 0, none⟩) (by simp) _) (p := ⟨w.heap.size + 1, 1, none⟩) (by simp) _)⟩
        case measure => simp [intOf]; omega
      · have HF := Lib.hid (show grX (L.take (k + 1)) = grSx p b by
          rw [← hp.out]
          rcases L with _ | ⟨x, l⟩
          · simp at hb
          · obtain ⟨j, rfl⟩ : ∃ j, k = j + 1 := ⟨k - 1, by omega⟩
            rw [List.take_succ_cons, List.take_succ_cons]
            show (x :: l.take (j + 1)).foldl grSx x = grSx ((x :: l.take j).foldl grSx x) b
            have h1 := fold_sx (x :: l) x b (j + 1) hb
            rw [List.take_succ_cons, List.take_succ_cons] at h1
            exact h1)
        have q0 : ((k : Int) == 0) = false := by simp; omega
        clear hb hpos
        go_upto_region 5 with fail
        generalize wr.alloc (.cells #[.int .i64 b.1, .string b.2] 25) = W1 at *
        generalize wr.heap.size = xb at *
        obtain ⟨x0, x1⟩ := hX.out.cs
        obtain ⟨y0, y1⟩ := hM1.out.cs
        go_wp2_with fail
        refine (less_r _ _ _ _ _).mono ?_
        rintro e W2 ⟨rfl, hb2⟩
        have HX2 := Lib.hid (hX.out.below hb2)
        have HM2 := Lib.hid (hM1.out.below hb2)
        have HR2 := Lib.hid (hR1.out.below hb2)
        have HB2 := Lib.hid (bstep hB1.out hb2)
        clear hb2 x0 x1 y0 y1
        obtain ⟨x0, x1⟩ := HX2.out.cs
        obtain ⟨y0, y1⟩ := HM2.out.cs
        have yf0 := HM2.out.fr 0
        have yf1 := HM2.out.fr 1
        cases hless : lessX p.1 p.2 b.1 b.2
        · have HS := Lib.hid (show grX (L.take (k + 1)) = p by rw [HF.out]; unfold grSx; rw [hless]; rfl)
          go_wp2_with fail
          go_roundw
          case rel => exact ⟨k + 1, p, by omega, by go_num, HS, HM2, HR2, HB2⟩
          case measure => simp [intOf]; omega
        · have HS := Lib.hid (show grX (L.take (k + 1)) = b by rw [HF.out]; unfold grSx; rw [hless]; rfl)
          go_wp2_with fail
          go_roundw
          case rel => exact ⟨k + 1, b, by omega, by go_num, HS, Lib.hid (HM2.out.store b.1 b.2), Lib.hid ((HR2.out.far (p := ⟨w.heap.size + 1, 0, none⟩) (by simp) _).far (p := ⟨w.heap.size + 1, 1, none⟩) (by simp) _), Lib.hid (bset (bset HB2.out (p := ⟨w.heap.size + 1, 0, none⟩) (by simp) _) (p := ⟨w.heap.size + 1, 1, none⟩) (by simp) _)⟩
          case measure => simp [intOf]; omega
    · obtain rfl : n = k := by omega
      obtain ⟨r0, r1⟩ := hR.out.cs
      have rf0 := hR.out.fr 0
      have rf1 := hR.out.fr 1
      obtain ⟨q0, q1⟩ := hM.out.cs
      have HE := Lib.hid (show grX L = p by rw [← hp.out, ← HN.out, List.take_length])
      go_wp2_with fail
      refine bodyPost_ret (v := .agg #[.int .i64 p.1, .string p.2]) ?_ rfl ⟨by rw [HE.out], bset (bset hB.out (p := ⟨w.heap.size, 0, none⟩) (by simp) _) (p := ⟨w.heap.size, 1, none⟩) (by simp) _⟩
      simp [results, Try.results9, go_sem, r0, r1, (show wr.heap[w.heap.size]? = _ from hR.out)]

/-- Values of at most 250 bytes, and at most 30 of them. -/
def shX (L : List (Int × ByteArray)) : Bool := (L.all fun b => decide (b.2.size ≤ 250)) && decide (L.length ≤ 30)
set_option maxRecDepth 100000 in
set_option maxHeartbeats 4000000 in
theorem short_x (L : List (Int × ByteArray)) (v : Value) (w : World) (h : BRow w v L) :
    Calls Try.prog 5 #[v] w fun e w' => e = .returned (.bool (shX L)) ∧ Below w.heap.size w w' := by
  obtain ⟨A, c, rfl, hc, hm⟩ := h.slice
  have H := Lib.hid h
  obtain ⟨n, hn⟩ : ∃ n, L.length = n := ⟨_, rfl⟩
  have hmx : (n : Int) ≤ 9223372036854775807 := by
    have : n ≤ maxLen := by omega
    unfold maxLen at this
    omega
  rw [hn] at H hc ⊢
  have HN := Lib.hid hn
  have HBR := Lib.hid (bref w)
  clear h hn hm
  go_enter Try.func5, Try.ntmps5
  go_wp2_with fail
  go_loopw [7] (fun t W => ∃ k : Nat, k ≤ n ∧ t = .int .i64 k ∧ Hid (∀ j b, j < k → L[j]? = some b → b.2.size ≤ 250) ∧ Hid (Below w.heap.size w W)) (fun t _ => n - (intOf t).toNat)
  case atStart => exact ⟨0, by omega, rfl, Lib.hid (fun j b hj => by omega), HBR⟩
  case round =>
    obtain ⟨k, hk, rfl, hall, hB⟩ := hrel
    by_cases hlt : k < n
    · obtain ⟨b, hb⟩ : ∃ b, L[k]? = some b := ⟨_, List.getElem?_eq_getElem (by rw [HN.out]; exact hlt)⟩
      obtain ⟨g, off, rfl, _, _, e23⟩ := (H.out.below hB.out).at_ hb
      have d0 : wr.cell? ⟨g, off + k * 2, none⟩ = some (.int .i64 b.1) := e23 0 _ rfl
      have d1 : wr.cell? ⟨g, off + k * 2 + 1, none⟩ = some (.string b.2) := e23 1 _ rfl
      clear e23
      have hX := Lib.hid (BalX.new wr b.1 b.2)
      have hB1 := Lib.hid (balloc hB.out (.cells #[.int .i64 b.1, .string b.2] 25))
      have ki : (k : Int) < (n : Int) := by omega
      by_cases hs : b.2.size ≤ 250
      · have HA := Lib.hid (show ∀ j c, j < k + 1 → L[j]? = some c → c.2.size ≤ 250 from fun j c hj hc => by
          rcases Nat.lt_or_ge j k with h1 | h1
          · exact hall.out j c h1 hc
          · obtain rfl : j = k := by omega
            rw [hb] at hc
            cases hc
            exact hs)
        have q0 : ¬ (250 : Int) < (b.2.size : Int) := by omega
        clear hb hs hall
        go_upto_region 4 with fail
        generalize wr.alloc (.cells #[.int .i64 b.1, .string b.2] 25) = W1 at *
        generalize wr.heap.size = xb at *
        obtain ⟨x0, x1⟩ := hX.out.cs
        go_wp2_with fail
        go_roundw
        case rel => exact ⟨k + 1, by omega, by go_num, HA, hB1⟩
        case measure => simp [intOf]; omega
      · have HR := Lib.hid (show shX L = false by
          unfold shX
          rw [Bool.and_eq_false_iff]
          left
          rw [List.all_eq_false]
          exact ⟨b, List.mem_of_getElem? hb, by simpa using hs⟩)
        have q0 : (250 : Int) < (b.2.size : Int) := by omega
        clear hb hs hall
        go_upto_region 4 with fail
        generalize wr.alloc (.cells #[.int .i64 b.1, .string b.2] 25) = W1 at *
        generalize wr.heap.size = xb at *
        obtain ⟨x0, x1⟩ := hX.out.cs
        go_wp2_with fail
        go_ret
        exact ⟨by rw [HR.out]; rfl, hB1.out⟩
    · obtain rfl : n = k := by omega
      have HR := Lib.hid (show shX L = decide ((n : Int) ≤ 30) by
        unfold shX
        rw [HN.out, show (L.all fun b => decide (b.2.size ≤ 250)) = true from by
          rw [List.all_eq_true]
          intro b hb
          obtain ⟨j, hj, rfl⟩ := List.getElem_of_mem hb
          exact decide_eq_true (hall.out j _ (by rw [← HN.out]; exact hj) (List.getElem?_eq_getElem hj)), Bool.true_and]
        rw [Bool.eq_iff_iff]
        simp
        omega)
      go_wp2_with fail
      go_ret
      exact ⟨by rw [HR.out]; rfl, hB.out⟩
end Go.Proofs.Ytnnajmoedihkjaa
