/- What the laws of this seat share: part 5. -/
import Derived.Test.YtacpfcckilnbfaaGreatB4
import Derived.RangeFuncFrom
import Derived.RangeFuncLeaves
import Derived.RangeFuncNested
import Derived.RangeFuncBound
import Derived.RangeFuncCalls
import Derived.Shelf.Abstract
import Derived.WalkKit
import Derived.OwnWalkIn
import Derived.TacticsInMore
import Derived.LoopNIn
import Derived.LoopIn
import Derived.Deep.RegionHeld3
import Derived.Deep.RegionWith
import Derived.Sort.Grow
import Derived.Deep.WholeRow
import Derived.Shelf.SlSortCmp.NoneTotal
import Derived.Shelf.SlGeneric
import Derived.Ground.SlsfProg
import Derived.Test.YtacpfcckilnbfaaGreatProg
import Derived.Sort.OwnSortedInts
import Derived.Shelf.Small.Bits
import Derived.Shelf.Strconv.Itoa0
import Derived.Shelf.SlSortCmp.Insertion
import Derived.Shelf.SlSortCmp.SiftDown1
import Derived.Shelf.SlSortCmp.HeapSort1
import Derived.Shelf.SlSortCmp.Insertion1
import Derived.Shelf.SlSortCmp.Median1
import Derived.Shelf.SlSortCmp.Pivot1
import Derived.Shelf.SlSortCmp.ReverseRange1
import Derived.Shelf.SlSortCmp.PartialInsertion1
import Derived.Shelf.SlSortCmp.PartitionEqual1
import Derived.Shelf.SlSortCmp.Partition1
import Derived.Shelf.SlSortCmp.Pdq1
import Derived.Shelf.SlSortCmp.Whole1

namespace Go.Proofs.YtacpfcckilnbfaaGreat
set_option linter.unusedVariables false
set_option linter.unusedSimpArgs false
open Go.RowKit

def foT : Tree := .mk 3 [0, 1, 2, 3] []

def foM (k : Nat) : List Mem := List.replicate k (true, foT)

theorem foM_succ (k : Nat) : foM (k + 1) = foM k ++ [(true, foT)] := List.replicate_succ'

theorem foM_len (k : Nat) : (foM k).length = k := List.length_replicate

set_option maxRecDepth 100000 in
set_option maxHeartbeats 4000000 in
theorem four15_run (w : World) : Calls Tryz.prog 72 #[] w fun e w' => ∃ v, e = .returned (.agg #[v]) ∧ MemsAt (fun _ => True) 1 w' v (foM 4) ∧ Below w.heap.size w w' := by
  obtain ⟨i4, hi4, hy0, hy1, hy2⟩ := info_parts infoMember
  have hb2 : Below w.heap.size w ((w.alloc (.cells #[.slice none 0 0] 27)).alloc (.cells #[.slice none 0 0] 27)) := balloc (balloc (bref w) _) _
  have k1 : ((w.alloc (.cells #[.slice none 0 0] 27)).alloc (.cells #[.slice none 0 0] 27)).heap[w.heap.size]? = some (.cells #[.slice none 0 0] 27 (0, 0)) := alloc_on (alloc_at rfl)
  have k2 : ((w.alloc (.cells #[.slice none 0 0] 27)).alloc (.cells #[.slice none 0 0] 27)).heap[w.heap.size + 1]? = some (.cells #[.slice none 0 0] 27 (0, 0)) := alloc_at (alloc_sz _ _)
  have hsz : ((w.alloc (.cells #[.slice none 0 0] 27)).alloc (.cells #[.slice none 0 0] 27)).heap.size = w.heap.size + 2 := by rw [alloc_sz, alloc_sz]
  have HB := Lib.hid hb2
  have K1 := Lib.hid k1
  have K2 := Lib.hid k2
  clear hb2 k1 k2
  go_enter Tryz.func72, Tryz.ntmps72
  go_upto_region 2 with fail
  generalize ((w.alloc (.cells #[.slice none 0 0] 27)).alloc (.cells #[.slice none 0 0] 27)) = W1 at *
  generalize hg : w.heap.size = g at *
  have HG := Lib.hid hg
  clear hg
  go_wp2_with fail
  go_loopw [2] (fun t W => ∃ (k : Nat) (v : Value), k ≤ 4 ∧ t = .int .i64 k ∧ Hid (MemRow (g + 2) 1 W v (foM k)) ∧ Hid (W.heap[g + 1]? = some (.cells #[v] 27 (0, 0))) ∧ Hid (W1.grownBy W (some (g + 1)))) (fun t _ => 4 - (intOf t).toNat)
  case atStart => exact ⟨0, .slice none 0 0, by omega, rfl, Lib.hid (MemRow.nil _ _ _), K2, Lib.hid (World.grownBy.refl _ _)⟩
  case round =>
    obtain ⟨k, v, hk, rfl, hRow, hOut, hGr⟩ := hrel
    have hwr := hGr.out.size
    by_cases hlt : k < 4
    · have HRS := Lib.hid (foM_succ k)
      have HRL := Lib.hid (foM_len k)
      obtain ⟨cs, hcs, hcl⟩ := hRow.out
      have hcn := hcs.1
      have HCL := Lib.hid hcl
      have HCS := Lib.hid hcs
      have HRO := Lib.hid hcs.lt
      have hk4 : (k : Int) < 4 := by omega
      obtain ⟨wo, hwo⟩ : ∃ x, x = wr := ⟨_, rfl⟩
      subst hwo
      have hnew := cell_four_new (wo.alloc (.cells #[.int .i64 0, .int .i64 1, .int .i64 2, .int .i64 3] 3)) (.bool true) (.int .i64 3) (.slice (some ⟨wo.heap.size, 0, none⟩) 4 4) (.slice none 0 0) 75
      rw [alloc_sz] at hnew
      have HNEW := Lib.hid hnew
      have HCSA := Lib.hid ((HCS.out.alloc (.cells #[.int .i64 0, .int .i64 1, .int .i64 2, .int .i64 3] 3)).alloc (.cells #[.bool true, .int .i64 3, .slice (some ⟨wo.heap.size, 0, none⟩) 4 4, .slice none 0 0] 75))
      have hba2 := balloc (balloc (bref wo) (.cells #[.int .i64 0, .int .i64 1, .int .i64 2, .int .i64 3] 3)) (.cells #[.bool true, .int .i64 3, .slice (some ⟨wo.heap.size, 0, none⟩) 4 4, .slice none 0 0] 75)
      have hints : ((wo.alloc (.cells #[.int .i64 0, .int .i64 1, .int .i64 2, .int .i64 3] 3)).alloc (.cells #[.bool true, .int .i64 3, .slice (some ⟨wo.heap.size, 0, none⟩) 4 4, .slice none 0 0] 75)).heap[wo.heap.size]? = some (.cells #[.int .i64 0, .int .i64 1, .int .i64 2, .int .i64 3] 3 (0, 0)) := alloc_on (alloc_at rfl)
      have hTT : TAt (fun b => wo.heap.size ≤ b) 1 ((wo.alloc (.cells #[.int .i64 0, .int .i64 1, .int .i64 2, .int .i64 3] 3)).alloc (.cells #[.bool true, .int .i64 3, .slice (some ⟨wo.heap.size, 0, none⟩) 4 4, .slice none 0 0] 75)) (.int .i64 3) (.slice (some ⟨wo.heap.size, 0, none⟩) 4 4) (.slice none 0 0) foT := by
        refine ⟨rfl, by decide, by decide, ⟨some ⟨wo.heap.size, 0, none⟩, 4, rfl, fun k hk => ⟨wo.heap.size, 0, rfl, Nat.le_refl _, ?_⟩⟩, ⟨none, 0, rfl, fun k T hT => by simp at hT⟩⟩
        have hk3 : k < 4 := hk
        rw [Nat.zero_add]
        refine (cell_of_row _ _ k _ _ (0, 0) hints).trans ?_
        match k, hk3 with
        | 0, _ | 1, _ | 2, _ | 3, _ => rfl
      have HBA2 := Lib.hid hba2
      have HTT := Lib.hid hTT
      have hszA : ((wo.alloc (.cells #[.int .i64 0, .int .i64 1, .int .i64 2, .int .i64 3] 3)).alloc (.cells #[.bool true, .int .i64 3, .slice (some ⟨wo.heap.size, 0, none⟩) 4 4, .slice none 0 0] 75)).heap.size = wo.heap.size + 1 + 1 := by rw [alloc_sz, alloc_sz]
      have HSZA := Lib.hid hszA
      have hcl3 : g + 1 < wo.heap.size := by omega
      have q2 : wo.cell? ⟨g + 1, 0, none⟩ = some v := cell_of_row _ _ 0 _ _ (0, 0) hOut.out
      clear hnew hba2 hszA hints hTT hcl hcs
      go_wp2_with (at_builtin; refine wpList_append_lies _ rfl _ _ 25 rfl (g + 2) 75 i4 (.agg #[.bool false, .int .i64 0, .slice none 0 0, .slice none 0 0]) 4 64 Tryz.underlying25 hi4 hy0 hy1 hy2 rfl (by decide) _ (foM k).length cs rfl (by exact HCSA.out) ⟨_, 0, none⟩ 1 1 [.bool true, .int .i64 3, .slice (some ⟨wo.heap.size, 0, none⟩) 4 4, .slice none 0 0] rfl rfl (by exact HNEW.out) (by intro u hu; simp at hu; rcases hu with rfl | rfl | rfl | rfl <;> rfl) (by omega) (by have := HRL.out; unfold maxLen; omega) (by have := HRL.out; omega) (by have := HSZA.out; omega) _ rfl ?_; intro g4 cap4 W5 hown4 hgrow4 hat4 hlt4; have hcb5 : W5.heap[g + 1]? = some (.cells #[v] 27 (0, 0)) := (hgrow4.block (g + 1) (by have := HSZA.out; omega) (fun e => by have := (HRO.out _ e.symm).1; omega)).trans ((HBA2.out.block (g + 1) hcl3).trans hOut.out); have s0 : W5.cell? ⟨g + 1, 0, none⟩ = some v := cell_of_row _ _ 0 _ _ (0, 0) hcb5; have sf : W5.frozen? ⟨g + 1, 0, none⟩ = false := by simp [World.frozen?, hcb5])
      have hgw : ((wo.alloc (.cells #[.int .i64 0, .int .i64 1, .int .i64 2, .int .i64 3] 3)).alloc (.cells #[.bool true, .int .i64 3, .slice (some ⟨wo.heap.size, 0, none⟩) 4 4, .slice none 0 0] 75)).grownBy W5 v.ownBlock := ⟨hgrow4.os, hgrow4.tape, hgrow4.output, hgrow4.size, hgrow4.block⟩
      have hrow5 := MemRow.append (m := (true, foT)) hRow.out (fun q _ hq => HBA2.out.block q hq) (by have := HSZA.out; omega) (by omega) HCL.out hcn HTT.out hown4 hgw hat4
      have hrow6 := hrow5.keep (W' := W5.setCell ⟨g + 1, 0, none⟩ (.slice (some ⟨g4, 0, none⟩) ((foM k).length + 1) cap4)) (fun q hq _ => Below.heap_setCell _ _ _ _ (by simp; omega))
      have hset5 : (W5.setCell ⟨g + 1, 0, none⟩ (.slice (some ⟨g4, 0, none⟩) ((foM k).length + 1) cap4)).heap[g + 1]? = some (.cells #[.slice (some ⟨g4, 0, none⟩) ((foM k).length + 1) cap4] 27 (0, 0)) := by
        simp [World.setCell, Array.getElem?_modify, hcb5]
      have hgr5 : W1.grownBy (W5.setCell ⟨g + 1, 0, none⟩ (.slice (some ⟨g4, 0, none⟩) ((foM k).length + 1) cap4)) (some (g + 1)) :=
        grown_at (gown (grown_trans hGr.out (grown_below HBA2.out)) hgw (fun q hq => by have := (HRO.out q hq).1; omega)) 0 _
      rw [← HRS.out] at hrow6
      have HROW := Lib.hid hrow6
      have HSET := Lib.hid hset5
      have HGR := Lib.hid hgr5
      clear hrow5 hrow6 hset5 hgr5 hown4 hgrow4 hat4 hlt4 hcb5 s0 sf hgw
      go_roundw
      case rel => exact ⟨k + 1, _, by omega, by go_num, HROW, HSET, HGR⟩
      case measure => simp [intOf]; omega
    · obtain rfl : k = 4 := by omega
      obtain ⟨Av, cv, hv⟩ : ∃ A c, v = .slice A (foM 4).length c := by
        obtain ⟨A, c, h1⟩ := (hRow.out.mems (P := fun _ => True) (fun _ _ => trivial)).slice
        exact ⟨A, c, h1⟩
      rw [foM_len] at hv
      subst hv
      have c2 : wr.cell? ⟨g + 1, 0, none⟩ = some (.slice Av 4 cv) := cell_of_row _ _ 0 _ _ (0, 0) hOut.out
      have hres : wr.heap[g]? = some (.cells #[.slice none 0 0] 27 (0, 0)) := (hGr.out.block g (by omega) (by simp)).trans K1.out
      have z0 : wr.cell? ⟨g, 0, none⟩ = some (.slice none 0 0) := cell_of_row _ _ 0 _ _ (0, 0) hres
      have zf : wr.frozen? ⟨g, 0, none⟩ = false := by simp [World.frozen?, hres]
      have hset : (wr.setCell ⟨g, 0, none⟩ (.slice Av 4 cv)).heap[g]? = some (.cells #[.slice Av 4 cv] 27 (0, 0)) := by
        simp [World.setCell, Array.getElem?_modify, hres]
      have q0 : (wr.setCell ⟨g, 0, none⟩ (.slice Av 4 cv)).cell? ⟨g, 0, none⟩ = some (.slice Av 4 cv) := cell_of_row _ _ 0 _ _ (0, 0) hset
      have hms : MemsAt (fun _ => True) 1 (wr.setCell ⟨g, 0, none⟩ (.slice Av 4 cv)) (.slice Av 4 cv) (foM 4) := (hRow.out.keep (fun q hq _ => Below.heap_setCell _ _ _ _ (by simp; omega))).mems (fun _ _ => trivial)
      have hbW : Below w.heap.size w (wr.setCell ⟨g, 0, none⟩ (.slice Av 4 cv)) := by
        have h1 := HB.out
        rw [← HG.out] at h1
        exact bset (h1.grown hGr.out h1.size (fun q hq => by obtain rfl := Option.some.inj hq; have := HG.out; omega)) (p := ⟨g, 0, none⟩) (by have := HG.out; show w.heap.size ≤ g; omega) _
      have HF := Lib.hid (And.intro hms hbW)
      have Q0 := Lib.hid q0
      clear hset q0 hms hbW hres
      go_wp2_with fail
      have q0 := Q0.out
      refine bodyPost_ret (v := .agg #[.slice Av 4 cv]) ?_ rfl ⟨_, rfl, HF.out⟩
      simp [results, Tryz.results72, go_sem, q0]

theorem foT_ok : WF ((4 : Nat) : Int) 3 foT := by
  refine ⟨by decide, by decide, by decide, by decide, by decide, by decide, fun T h => by cases h⟩

theorem foM_ok : D3.MemsOk (foM 4).length (foM 4) := fun x hx => by
  rw [foM_len]
  obtain rfl := List.eq_of_mem_replicate hx
  exact ⟨fun _ => foT_ok, fun h => by cases h⟩

theorem foM_pair : PairM (foM 4) (foM 4) := PairM.same (by decide) foM_ok

theorem four15 (w : World) : Calls Tryz.prog 72 #[] w fun e w' => ∃ v, e = .returned (.agg #[v]) ∧ MemsAt (fun _ => True) 3 w' v (foM 4) ∧ Below w.heap.size w w' :=
  (four15_run w).mono (by rintro e w' ⟨v, h1, h2, h3⟩; exact ⟨v, h1, h2.up.up, h3⟩)

end Go.Proofs.YtacpfcckilnbfaaGreat

namespace Go.Proofs.YtacpfcckilnbfaaGreat
set_option linter.unusedVariables false
set_option linter.unusedSimpArgs false

/-- A quorum of what is left when B is deleted. -/
def QB (f : Nat → Nat → Bool) (D B q : Nat) : Prop := q ≠ 0 ∧ q < 1024 ∧ ∀ k, q.testBit k = true → B.testBit k = false ∧ D.testBit k = true ∧ f k (q ||| B) = true

/-- Intersection despite B. -/
def IntB (f : Nat → Nat → Bool) (D B : Nat) : Prop := ∀ a b, QB f D B a → QB f D B b → ∃ k, a.testBit k = true ∧ b.testBit k = true

/-- Availability despite B. -/
def AvB (g : Nat → Nat → Bool) (D n B : Nat) : Prop := outS n B = 0 ∨ QB g D 0 (outS n B)

def DispB (f g : Nat → Nat → Bool) (D n B : Nat) : Prop := AvB g D n B ∧ IntB f D B

/-- What the two systems of a pair have. -/
structure PairF (f g : Nat → Nat → Bool) (D n : Nat) : Prop where
  n10 : n ≤ 10
  dlt : D < 2 ^ n
  mf : ∀ k a b, a < 1024 → b < 1024 → Sub a b → f k a = true → f k b = true
  mg : ∀ k a b, a < 1024 → b < 1024 → Sub a b → g k a = true → g k b = true
  gf : ∀ k s, D.testBit k = true → s < 1024 → g k s = true → f k s = true

theorem pow_1024 {n : Nat} (h : n ≤ 10) : 2 ^ n ≤ 1024 := Nat.le_trans (Nat.pow_le_pow_right (by omega) h) (by decide)

theorem some_bit {q : Nat} (h : q ≠ 0) : ∃ k, q.testBit k = true := Nat.exists_testBit_of_ne_zero h

theorem ne_of_bit {q k : Nat} (h : q.testBit k = true) : q ≠ 0 := by
  rintro rfl
  simp at h

theorem lt_bit {t n k : Nat} (ht : t < 2 ^ n) (h : t.testBit k = true) : k < n := by
  rcases Nat.lt_or_ge k n with h1 | h1
  · exact h1
  · rw [Nat.testBit_lt_two_pow (Nat.lt_of_lt_of_le ht (Nat.pow_le_pow_right (by omega) h1))] at h
    cases h

theorem or_lt {a b : Nat} (ha : a < 1024) (hb : b < 1024) : a ||| b < 1024 := Nat.or_lt_two_pow (n := 10) ha hb

theorem and_ltL {a b m : Nat} (ha : a < m) : a &&& b < m := Nat.lt_of_le_of_lt Nat.and_le_left ha

theorem outS_lt2 (n t : Nat) : outS n t < 2 ^ n := Nat.lt_pow_two_of_testBit _ (fun k hk => by
  rw [outS_bit, decide_eq_false (by omega)]; rfl)

/-- The meet of two dispensable sets. -/
theorem disp_meets {f g : Nat → Nat → Bool} {D n ill x y : Nat} (P : PairF f g D n) (hx : x < 2 ^ n) (hy : y < 2 ^ n) (hil : ill < 2 ^ n) (h1 : Sub ill x) (h2 : Sub ill y) (hi : IntB f D ill) (dx : DispB f g D n x) (dy : DispB f g D n y) : DispB f g D n (x &&& y) := by
  have p10 := pow_1024 P.n10
  have hx' : x < 1024 := by omega
  have hy' : y < 1024 := by omega
  have hi' : ill < 1024 := by omega
  have full : ∀ {a b : Nat}, b < 2 ^ n → outS n a = 0 → a &&& b = b := fun {a b} hb h0 => by
    apply Nat.eq_of_testBit_eq
    intro k
    rw [Nat.testBit_and]
    cases hk : b.testBit k
    · simp
    · have hkn := lt_bit hb hk
      have h3 := outS_bit n a k
      rw [h0, Nat.zero_testBit, decide_eq_true hkn, Bool.true_and] at h3
      have : a.testBit k = true := by cases ha : a.testBit k <;> rw [ha] at h3 <;> simp_all
      rw [this]; rfl
  rcases dx.1 with h0 | hU1
  · rw [full hy h0]; exact dy
  rcases dy.1 with h0 | hU2
  · rw [Nat.and_comm, full hx h0]; exact dx
  have u1 : ∀ k, (outS n x).testBit k = true → x.testBit k = false := fun k hk => by rw [outS_bit] at hk; simp at hk; exact hk.2
  have u2 : ∀ k, (outS n y).testBit k = true → y.testBit k = false := fun k hk => by rw [outS_bit] at hk; simp at hk; exact hk.2
  have l1 : outS n x < 1024 := by have := outS_lt2 n x; omega
  have l2 : outS n y < 1024 := by have := outS_lt2 n y; omega
  have hxy : x &&& y < 1024 := and_ltL hx'
  -- what both say together
  have eU : outS n (x &&& y) = outS n x ||| outS n y := by
    apply Nat.eq_of_testBit_eq
    intro k
    rw [Nat.testBit_or, outS_bit, outS_bit, outS_bit, Nat.testBit_and]
    cases decide (k < n) <;> cases x.testBit k <;> cases y.testBit k <;> rfl
  -- a quorum of High is one of Low despite whatever is disjoint from it
  have low : ∀ {u b : Nat}, u < 1024 → b < 1024 → QB g D 0 u → (∀ k, u.testBit k = true → b.testBit k = false) → QB f D b u := fun {u b} hu hb h hd => by
    refine ⟨h.1, h.2.1, fun k hk => ⟨hd k hk, (h.2.2 k hk).2.1, ?_⟩⟩
    have h3 := P.gf k _ (h.2.2 k hk).2.1 (or_lt hu (by omega)) (h.2.2 k hk).2.2
    exact P.mf k _ _ (or_lt hu (by omega)) (or_lt hu hb) (fun j hj => by rw [Nat.testBit_or] at hj ⊢; rw [Nat.zero_testBit, Bool.or_false] at hj; rw [hj]; rfl) h3
  obtain ⟨k0, ka, kb⟩ := hi _ _ (low l1 hi' hU1 (fun k hk => by
      cases h : ill.testBit k
      · rfl
      · have h4 := h1 k h; have := u1 k hk; simp_all)) (low l2 hi' hU2 (fun k hk => by
      cases h : ill.testBit k
      · rfl
      · have h4 := h2 k h; have := u2 k hk; simp_all))
  -- what is left of a quorum of Low despite less
  have cut : ∀ {v b c : Nat}, v < 1024 → b < 1024 → c < 1024 → Sub b c → QB f D b v → (∃ k, v.testBit k = true ∧ c.testBit k = false) → QB f D c (minS v c) := fun {v b c} hv hb hc hs h hk => by
    obtain ⟨k, hk1, hk2⟩ := hk
    refine ⟨ne_of_bit (k := k) (by rw [minS_bit, hk1, hk2]; rfl), minS_lt hv, fun j hj => ?_⟩
    rw [minS_bit, Bool.and_eq_true, Bool.not_eq_true'] at hj
    refine ⟨hj.2, (h.2.2 j hj.1).2.1, P.mf j _ _ (or_lt hv hb) (or_lt (minS_lt hv) hc) (fun i hi => ?_) (h.2.2 j hj.1).2.2⟩
    rw [Nat.testBit_or] at hi ⊢
    rw [minS_bit]
    cases hc' : c.testBit i
    · rcases Bool.or_eq_true _ _ ▸ hi with h3 | h3
      · rw [h3]; rfl
      · rw [hs i h3] at hc'; cases hc'
    · simp
  have z : ∀ {b : Nat}, Sub 0 b := fun k hk => by simp at hk
  have q2x : QB f D x (minS (outS n y) x) := cut l2 (b := 0) (by omega) hx' z (low l2 (by omega) hU2 (fun k _ => Nat.zero_testBit k)) ⟨k0, kb, u1 k0 ka⟩
  have q1y : QB f D y (minS (outS n x) y) := cut l1 (b := 0) (by omega) hy' z (low l1 (by omega) hU1 (fun k _ => Nat.zero_testBit k)) ⟨k0, ka, u2 k0 kb⟩
  have sx : Sub (x &&& y) x := fun k hk => by rw [Nat.testBit_and, Bool.and_eq_true] at hk; exact hk.1
  have sy : Sub (x &&& y) y := fun k hk => by rw [Nat.testBit_and, Bool.and_eq_true] at hk; exact hk.2
  have notx : ∀ {v : Nat}, QB f D (x &&& y) v → ∃ k, v.testBit k = true ∧ x.testBit k = false := fun {v} h => by
    obtain ⟨k, hk⟩ := some_bit h.1
    have h3 := (h.2.2 k hk).1
    rw [Nat.testBit_and, Bool.and_eq_false_iff] at h3
    rcases h3 with h3 | h3
    · exact ⟨k, hk, h3⟩
    · obtain ⟨j, j1, j2⟩ := dy.2 _ _ (cut h.2.1 hxy hy' sy h ⟨k, hk, h3⟩) q1y
      rw [minS_bit, Bool.and_eq_true] at j1 j2
      exact ⟨j, j1.1, u1 j j2.1⟩
  refine ⟨.inr ?_, fun a b ha hb => ?_⟩
  · rw [eU]
    refine ⟨fun h => hU1.1 ?_, or_lt l1 l2, fun k hk => ⟨Nat.zero_testBit k, ?_⟩⟩
    · apply Nat.eq_of_testBit_eq
      intro k
      have := congrArg (fun t => t.testBit k) h
      simp only [Nat.testBit_or, Nat.zero_testBit, Bool.or_eq_false_iff] at this
      rw [Nat.zero_testBit]; exact this.1
    · rw [Nat.testBit_or, Bool.or_eq_true] at hk
      rcases hk with hk | hk
      · exact ⟨(hU1.2.2 k hk).2.1, P.mg k _ _ (or_lt l1 (by omega)) (or_lt (or_lt l1 l2) (by omega)) (fun j hj => by rw [Nat.testBit_or, Nat.zero_testBit, Bool.or_false] at *; rw [Nat.testBit_or, hj]; rfl) (hU1.2.2 k hk).2.2⟩
      · exact ⟨(hU2.2.2 k hk).2.1, P.mg k _ _ (or_lt l2 (by omega)) (or_lt (or_lt l1 l2) (by omega)) (fun j hj => by rw [Nat.testBit_or, Nat.zero_testBit, Bool.or_false] at *; rw [Nat.testBit_or, hj, Bool.or_true]) (hU2.2.2 k hk).2.2⟩
  · obtain ⟨j, j1, j2⟩ := dx.2 _ _ (cut ha.2.1 hxy hx' sx ha (notx ha)) (cut hb.2.1 hxy hx' sx hb (notx hb))
    rw [minS_bit, Bool.and_eq_true] at j1 j2
    exact ⟨j, j1.1, j2.1⟩

/-- The set of all members is dispensable. -/
theorem disp_all {f g : Nat → Nat → Bool} {D n : Nat} (P : PairF f g D n) : DispB f g D n (2 ^ n - 1) := by
  refine ⟨.inl ?_, fun a b ha hb => ?_⟩
  · apply Nat.eq_of_testBit_eq
    intro k
    rw [outS_bit, Nat.testBit_two_pow_sub_one, Nat.zero_testBit]
    cases decide (k < n) <;> rfl
  · obtain ⟨k, hk⟩ := some_bit ha.1
    have h3 := ha.2.2 k hk
    rw [Nat.testBit_two_pow_sub_one, decide_eq_true (lt_bit P.dlt h3.2.1)] at h3
    cases h3.1

end Go.Proofs.YtacpfcckilnbfaaGreat

namespace Go.Proofs.YtacpfcckilnbfaaGreat
set_option linter.unusedVariables false
set_option linter.unusedSimpArgs false
open Go.RowKit

theorem minS_zero {s n : Nat} (hs : s < 2 ^ n) : minS s (2 ^ n - 1) = 0 := by
  apply Nat.eq_of_testBit_eq
  intro k
  rw [minS_bit, Nat.testBit_two_pow_sub_one, Nat.zero_testBit]
  rcases Nat.lt_or_ge k n with h | h
  · simp [h]
  · rw [Nat.testBit_lt_two_pow (Nat.lt_of_lt_of_le hs (Nat.pow_le_pow_right (by decide) h))]; rfl

/-- No two quorums are disjoint. -/
def InT (ms : List Mem) : Prop := ∀ t, ¬ Apart 3 ms t

/-- What is left is a quorum, or nothing. -/
def AvT (ms : List Mem) (s : Nat) : Prop := outS ms.length s = 0 ∨ IsQ 3 ms (outS ms.length s)

theorem apart_lt {d : Nat} {ms : List Mem} {t : Nat} (hl : ms.length ≤ 10) (h : Apart d ms t) : t < 2 ^ ms.length :=
  Nat.lt_pow_two_of_testBit _ (fun k hk => by
    cases hb : t.testBit k
    · rfl
    · have h2 := h.1.2.1 k hb
      have := declS_bit h2
      omega)

theorem holds_int {ms : List Mem} {e : Ending} (hl : ms.length ≤ 10) (h : HoldsOk 3 ms e) : ∃ x : Bool, e = .returned (.tuple #[.bool x, .int .i64 0]) ∧ (x = true ↔ InT ms) := by
  rcases h with ⟨rfl, h⟩ | ⟨rfl, t, _, h⟩
  · exact ⟨true, rfl, iff_of_true rfl (fun t ht => h t (apart_lt hl ht) ht)⟩
  · exact ⟨false, rfl, iff_of_false (by simp) (fun k => k t h)⟩

set_option maxRecDepth 100000 in
set_option maxHeartbeats 400000 in
theorem dpmembers_run (A : Option Addr) (n c : Nat) (hn : n ≤ 10) (w : World) : Calls Tryz.prog 49 #[.agg #[.slice A n c]] w fun e w' => e = .returned (.int .i64 ((2 ^ n - 1 : Nat) : Int)) ∧ Below w.heap.size w w' := by
  have hp := pow11 n (by omega)
  have hp1 : 1 ≤ 2 ^ n := Nat.one_le_pow _ _ (by omega)
  have hp2 : 2 ^ n ≤ 2 ^ 10 := Nat.pow_le_pow_right (by omega) hn
  obtain ⟨N, hN⟩ : ∃ N, 2 ^ n = N := ⟨_, rfl⟩
  rw [hN] at hp hp1 hp2 ⊢
  clear hN
  have hw1 : wrap64 ((N : Int) - 1) = (N : Int) - 1 := by unfold wrap64; omega
  have hn64 : (n : Int) < 64 := by omega
  have HE := Lib.hid (show ((N - 1 : Nat) : Int) = (N : Int) - 1 by omega)
  go_enter Tryz.func49, Tryz.ntmps49
  go_wp2_with fail
  go_ret
  exact ⟨by rw [HE.out]; rfl, balloc (bref _) _⟩

set_option maxRecDepth 100000 in
set_option maxHeartbeats 2000000 in
theorem dpsubset_run (P : Nat → Prop) (ms : List Mem) (v : Value) (s : Nat) (w : World) (hl : ms.length ≤ 10) (hs : s < 2 ^ ms.length) (h : MemsAt P 3 w v ms) (hok : D3.MemsOk ms.length ms) :
    Calls Tryz.prog 87 #[.agg #[v], .int .i64 (s : Int)] w fun e w' => e = .returned (.bool true) ∧ Below w.heap.size w w' := by
  obtain ⟨A, c, rfl⟩ := h.slice
  have hb1 : Below w.heap.size w (w.alloc (.cells #[.slice A ms.length c] 27)) := balloc (bref w) _
  have k0 : (w.alloc (.cells #[.slice A ms.length c] 27)).heap[w.heap.size]? = some (.cells #[.slice A ms.length c] 27 (0, 0)) := alloc_at rfl
  have hp2 : 2 ^ ms.length ≤ 2 ^ 10 := Nat.pow_le_pow_right (by omega) hl
  have hs10 : s < 1024 := by omega
  have hm10 : 2 ^ ms.length - 1 < 1024 := by omega
  have han := andNot_nat s (2 ^ ms.length - 1) hs10 hm10
  rw [show s ^^^ (s &&& (2 ^ ms.length - 1)) = 0 from minS_zero hs] at han
  have HMR := Lib.hid (fun W => dpmembers_run A ms.length c hl W)
  obtain ⟨M, hM⟩ : ∃ M, 2 ^ ms.length - 1 = M := ⟨_, rfl⟩
  rw [hM] at han HMR hm10
  clear hM
  have hs0 : (0 : Int) ≤ (s : Int) := by omega
  have H := Lib.hid (h.below hb1)
  have HB := Lib.hid hb1
  have K0 := Lib.hid k0
  have HOK := Lib.hid hok
  have HS := Lib.hid hs
  clear h hb1 k0 hp2 hs hok
  go_enter Tryz.func87, Tryz.ntmps87
  go_upto_region 1 with fail
  generalize w.alloc (.cells #[.slice A ms.length c] 27) = W1 at *
  generalize hg : w.heap.size = g at *
  have HG := Lib.hid hg
  clear hg
  have c0 : W1.cell? ⟨g, 0, none⟩ = some (.slice A ms.length c) := cell_of_row _ _ 0 _ _ (0, 0) K0.out
  have HBw := Lib.hid (show Below w.heap.size w W1 by rw [HG.out]; exact HB.out)
  go_wp2_with fail
  refine (HMR.out _).mono ?_
  rintro e W2x ⟨rfl, hbx⟩
  have c1 := (hbx.cell (cell_lt c0)).trans c0
  have HB1 := Lib.hid (bstep HBw.out hbx)
  have H1 := Lib.hid (H.out.below hbx)
  clear hbx c0
  go_wp2_with fail
  go_ret
  exact ⟨rfl, HB1.out⟩

set_option maxRecDepth 100000 in
set_option maxHeartbeats 2000000 in
theorem dpvset_run (P : Nat → Prop) (ms : List Mem) (v : Value) (s : Nat) (w : World) (hl : ms.length ≤ 10) (hs : s < 2 ^ ms.length) (h : MemsAt P 3 w v ms) (hok : D3.MemsOk ms.length ms) :
    Calls Tryz.prog 51 #[.agg #[v], .int .i64 (s : Int)] w fun e w' => e = .returned (.int .i64 0) ∧ Below w.heap.size w w' := by
  obtain ⟨A, c, rfl⟩ := h.slice
  have hb1 : Below w.heap.size w (w.alloc (.cells #[.slice A ms.length c] 27)) := balloc (bref w) _
  have k0 : (w.alloc (.cells #[.slice A ms.length c] 27)).heap[w.heap.size]? = some (.cells #[.slice A ms.length c] 27 (0, 0)) := alloc_at rfl
  have hp2 : 2 ^ ms.length ≤ 2 ^ 10 := Nat.pow_le_pow_right (by omega) hl
  have hs10 : s < 1024 := by omega
  have H := Lib.hid (h.below hb1)
  have HB := Lib.hid hb1
  have K0 := Lib.hid k0
  have HOK := Lib.hid hok
  have HS := Lib.hid hs
  clear h hb1 k0 hp2 hs hok
  go_enter Tryz.func51, Tryz.ntmps51
  go_upto_region 1 with fail
  generalize w.alloc (.cells #[.slice A ms.length c] 27) = W1 at *
  generalize hg : w.heap.size = g at *
  have HG := Lib.hid hg
  clear hg
  have c0 : W1.cell? ⟨g, 0, none⟩ = some (.slice A ms.length c) := cell_of_row _ _ 0 _ _ (0, 0) K0.out
  have HBw := Lib.hid (show Below w.heap.size w W1 by rw [HG.out]; exact HB.out)
  go_wp2_with fail
  refine (D3.cvalid_run P ms _ _ hl H.out HOK.out).mono ?_
  rintro e W2x ⟨rfl, hbx⟩
  have c1 := (hbx.cell (cell_lt c0)).trans c0
  have HB1 := Lib.hid (bstep HBw.out hbx)
  have H1 := Lib.hid (H.out.below hbx)
  clear hbx c0
  go_wp2_with fail
  refine (dpsubset_run P ms _ s _ hl HS.out H1.out HOK.out).mono ?_
  rintro e W3x ⟨rfl, hbx⟩
  have c2 := (hbx.cell (cell_lt c1)).trans c1
  have HB2 := Lib.hid (bstep HB1.out hbx)
  have H2 := Lib.hid (H1.out.below hbx)
  clear hbx c1
  go_wp2_with fail
  go_ret
  exact ⟨rfl, HB2.out⟩

set_option maxRecDepth 100000 in
set_option maxHeartbeats 2000000 in
theorem dpints_run (P : Nat → Prop) (ms : List Mem) (v : Value) (s : Nat) (w : World) (hl : ms.length ≤ 10) (hs : s < 2 ^ ms.length) (h : MemsAt P 3 w v ms) (hok : D3.MemsOk ms.length ms) :
    Calls Tryz.prog 16 #[.agg #[v], .int .i64 (s : Int)] w fun e w' => (∃ x : Bool, e = .returned (.tuple #[.bool x, .int .i64 0]) ∧ (x = true ↔ InT (D3.delM s ms))) ∧ Below w.heap.size w w' := by
  obtain ⟨A, c, rfl⟩ := h.slice
  have hb1 : Below w.heap.size w (w.alloc (.cells #[.slice A ms.length c] 27)) := balloc (bref w) _
  have k0 : (w.alloc (.cells #[.slice A ms.length c] 27)).heap[w.heap.size]? = some (.cells #[.slice A ms.length c] 27 (0, 0)) := alloc_at rfl
  have hp2 : 2 ^ ms.length ≤ 2 ^ 10 := Nat.pow_le_pow_right (by omega) hl
  have hs10 : s < 1024 := by omega
  have H := Lib.hid (h.below hb1)
  have HB := Lib.hid hb1
  have K0 := Lib.hid k0
  have HOK := Lib.hid hok
  have HS := Lib.hid hs
  clear h hb1 k0 hp2 hs hok
  go_enter Tryz.func16, Tryz.ntmps16
  go_upto_region 1 with fail
  generalize w.alloc (.cells #[.slice A ms.length c] 27) = W1 at *
  generalize hg : w.heap.size = g at *
  have HG := Lib.hid hg
  clear hg
  have c0 : W1.cell? ⟨g, 0, none⟩ = some (.slice A ms.length c) := cell_of_row _ _ 0 _ _ (0, 0) K0.out
  have HBw := Lib.hid (show Below w.heap.size w W1 by rw [HG.out]; exact HB.out)
  go_wp2_with fail
  refine (dpvset_run P ms _ s _ hl HS.out H.out HOK.out).mono ?_
  rintro e W2x ⟨rfl, hbx⟩
  have c1 := (hbx.cell (cell_lt c0)).trans c0
  have HB1 := Lib.hid (bstep HBw.out hbx)
  have H1 := Lib.hid (H.out.below hbx)
  clear hbx c0
  go_wp2_with fail
  refine (D3.pdelete_run P ms _ s _ hl hs10 H1.out HOK.out).mono ?_
  rintro e Wd ⟨vd, rfl, hmd, hbd⟩
  have HMD := Lib.hid hmd
  have HBD := Lib.hid (bstep HB1.out hbd)
  clear hbd hmd c1
  go_wp2_with fail
  refine (D3.holds12_run _ (D3.delM s ms) _ _ (by rw [D3.delM_len]; exact hl) HMD.out (D3.delM_ok HOK.out)).mono ?_
  rintro e We ⟨hho, hbe⟩
  obtain ⟨x, rfl, hx⟩ := holds_int (by rw [D3.delM_len]; exact hl) hho
  have HX := Lib.hid hx
  have HBE := Lib.hid (bstep HBD.out hbe)
  clear hbe hho hx
  go_wp2_with fail
  go_ret2
  exact ⟨⟨x, rfl, HX.out⟩, HBE.out⟩

set_option maxRecDepth 100000 in
set_option maxHeartbeats 2000000 in
theorem dpavail_run (P : Nat → Prop) (ms : List Mem) (v : Value) (s : Nat) (w : World) (hl : ms.length ≤ 10) (hs : s < 2 ^ ms.length) (h : MemsAt P 3 w v ms) (hok : D3.MemsOk ms.length ms) :
    Calls Tryz.prog 92 #[.agg #[v], .int .i64 (s : Int)] w fun e w' => (∃ x : Bool, e = .returned (.tuple #[.bool x, .int .i64 0]) ∧ (x = true ↔ AvT ms s)) ∧ Below w.heap.size w w' := by
  obtain ⟨A, c, rfl⟩ := h.slice
  have hb1 : Below w.heap.size w (w.alloc (.cells #[.slice A ms.length c] 27)) := balloc (bref w) _
  have k0 : (w.alloc (.cells #[.slice A ms.length c] 27)).heap[w.heap.size]? = some (.cells #[.slice A ms.length c] 27 (0, 0)) := alloc_at rfl
  have hp2 : 2 ^ ms.length ≤ 2 ^ 10 := Nat.pow_le_pow_right (by omega) hl
  have hs10 : s < 1024 := by omega
  have hm10 : 2 ^ ms.length - 1 < 1024 := by omega
  have han : bits .andNot .i64 ((2 ^ ms.length - 1 : Nat) : Int) (s : Int) = ((outS ms.length s : Nat) : Int) := andNot_nat (2 ^ ms.length - 1) s hm10 hs10
  have HMR := Lib.hid (fun W => dpmembers_run A ms.length c hl W)
  obtain ⟨M, hM⟩ : ∃ M, 2 ^ ms.length - 1 = M := ⟨_, rfl⟩
  rw [hM] at han HMR hm10
  clear hM
  have HR := Lib.hid (outS_lt ms.length s hl)
  have HAV := Lib.hid (show AvT ms s ↔ (outS ms.length s = 0 ∨ IsQ 3 ms (outS ms.length s)) from Iff.rfl)
  generalize outS ms.length s = r at han HR HAV
  have H := Lib.hid (h.below hb1)
  have HB := Lib.hid hb1
  have K0 := Lib.hid k0
  have HOK := Lib.hid hok
  have HS := Lib.hid hs
  clear h hb1 k0 hp2 hs hok
  go_enter Tryz.func92, Tryz.ntmps92
  go_upto_region 1 with fail
  generalize w.alloc (.cells #[.slice A ms.length c] 27) = W1 at *
  generalize hg : w.heap.size = g at *
  have HG := Lib.hid hg
  clear hg
  have c0 : W1.cell? ⟨g, 0, none⟩ = some (.slice A ms.length c) := cell_of_row _ _ 0 _ _ (0, 0) K0.out
  have HBw := Lib.hid (show Below w.heap.size w W1 by rw [HG.out]; exact HB.out)
  go_wp2_with fail
  refine (dpvset_run P ms _ s _ hl HS.out H.out HOK.out).mono ?_
  rintro e W2x ⟨rfl, hbx⟩
  have c1 := (hbx.cell (cell_lt c0)).trans c0
  have HB1 := Lib.hid (bstep HBw.out hbx)
  have H1 := Lib.hid (H.out.below hbx)
  clear hbx c0
  go_wp2_with fail
  refine (HMR.out _).mono ?_
  rintro e W3x ⟨rfl, hbx⟩
  have c2 := (hbx.cell (cell_lt c1)).trans c1
  have HB2 := Lib.hid (bstep HB1.out hbx)
  have H2 := Lib.hid (H1.out.below hbx)
  clear hbx c1
  by_cases hr0 : r = 0
  · subst hr0
    go_wp2_with fail
    go_ret2
    exact ⟨⟨true, rfl, iff_of_true rfl (HAV.out.2 (.inl (by first | rfl | trivial)))⟩, HB2.out⟩
  · have hr0i : ¬ (r : Int) = 0 := by omega
    go_wp2_with fail
    refine (quorum_run P 3 ms _ r _ hl HR.out H2.out).mono ?_
    rintro e Wq ⟨b, rfl, hq, hbq⟩
    have HQ := Lib.hid hq
    have HBQ := Lib.hid (bstep HB2.out hbq)
    clear hbq hq
    go_wp2_with fail
    go_ret2
    exact ⟨⟨((r : Int) == 0 || b), rfl, (show ((r : Int) == 0 || b) = true ↔ b = true by rw [show ((r : Int) == 0) = false by simpa using hr0]; simp).trans <| HQ.out.trans (Iff.trans ⟨fun h => Or.inr h, fun h => h.resolve_left hr0⟩ HAV.out.symm)⟩, HBQ.out⟩

end Go.Proofs.YtacpfcckilnbfaaGreat

namespace Go.Proofs.YtacpfcckilnbfaaGreat
set_option linter.unusedVariables false
set_option linter.unusedSimpArgs false
open Go.RowKit Go.Shelf
attribute [local go_sem] Oper.semAt_some

set_option maxHeartbeats 400000 in
theorem sets_run (w : World) : Calls Tryz.prog 165 #[] w fun e w' => e = .returned (.func (.func 180) #[] #[]) ∧ w' = w := by
  go_enter Tryz.func165, Tryz.ntmps165
  go_wp2_with fail
  go_ret
  exact ⟨rfl, rfl⟩

theorem fr_of {W : World} {b o : Nat} {cs : Array Value} {t : TypeId} (h : W.heap[b]? = some (.cells cs t (0, 0))) : W.frozen? ⟨b, o, none⟩ = false := by simp [World.frozen?, h]

def boolS (b : Bool) (s : Nat) : Nat := if b then 20001 - keyN s else 0

set_option maxRecDepth 100000 in
set_option maxHeartbeats 4000000 in
/-- The iterator over all sets, for every loop body. -/
theorem sets_stops (Kp : World → World → Prop) (n : Nat) (hn : 2 ≤ n) (w : World) :
    SeqStopsK Fence.wide n Tryz.prog 180 #[] (fun x : Fin 1024 => #[Value.int .i64 ((x.val : Nat) : Int)]) Kp (fun _ => True) (fun _ => True) 1025 w := fun l J Jx W hW hJ hJx hY h0 => by
  refine callsIn_of_wp Tryz.func180 rfl trivial ?_ rfl
  simp only [Tryz.ntmps180, List.size_toArray, List.length_cons, List.length_nil, Nat.reduceAdd, Nat.reduceSub, Array.replicate_succ, Array.replicate_zero, List.push_toArray, List.append_toArray, List.nil_append, List.cons_append]
  gi_wp2
  gi_loopw [2, 3] (fun sv kv wr => ∃ (s : Nat) (ok : Bool) (pre : List (Fin 1024)), sv = .int .i64 (s : Int) ∧ kv = .bool ok ∧ s < 1024 ∧ (ok = true → (ordN 10)[pre.length]? = some s) ∧ J pre wr) (fun sv kv _ => match kv with | .bool b => boolS b (intOf sv).toNat | _ => 0)
  case atStart => exact ⟨0, true, [], rfl, rfl, by omega, fun _ => ord_zero _, h0⟩
  case round =>
    obtain ⟨s, ok, pre, rfl, rfl, hs, hT, hJs⟩ := hrel
    cases ok
    · gi_wp2
      refine ⟨fun _ h => (by cases h), ?_⟩
      gi_wp2
      go_end0
      exact ⟨⟨_, rfl⟩, .inl ⟨pre, trivial, hJs⟩⟩
    · have hi := hT rfl
      have hlen : pre.length < 1024 := by
        have h := (List.getElem?_eq_some_iff.1 hi).1
        rw [ord_len] at h; exact h
      obtain ⟨fn, tmps, assign, body, hy, hR⟩ := hY pre ⟨s, hs⟩ wr hJs (by omega)
      dsimp only at hy
      have HI := Lib.hid hi
      have HR := Lib.hid hR
      clear hi hT hR
      gi_wp2
      refine ⟨fun _ => by omega, ?_⟩
      refine HR.out.mono ?_
      rintro e W3 (⟨rfl, hJ3, hk3⟩ | ⟨rfl, hJx3⟩)
      · have hst := ord_step 10 (by omega) pre.length s HI.out
        have HN := Lib.hid (show Calls Tryz.prog 119 #[.int .i64 (s : Int), .int .i64 10] W3 (fun e w' => e = nextR 10 s ∧ W3 = w') from pnext_run s 10 (by omega) (by omega) W3)
        clear hy
        rcases Nat.lt_or_ge (nextN 10 s) (2 ^ 10) with hnx | hnx
        · have HE := Lib.hid (show nextR 10 s = .returned (.tuple #[.int .i64 (nextN 10 s : Int), .bool true]) by
            unfold nextR; rw [if_neg (show ¬ 2 ^ 10 ≤ nextN 10 s by omega), decide_eq_false (show ¬ 2 ^ 10 ≤ nextN 10 s by omega)]; rfl)
          have HK := Lib.hid (keyN_next 10 (by omega) s (by omega) hnx)
          have HKL := Lib.hid (keyN_lt _ (show nextN 10 s < 1024 by omega))
          have HST := Lib.hid (hst.1 hnx)
          have HNL := Lib.hid (show nextN 10 s < 1024 by omega)
          rw [HE.out] at HN
          clear hst hnx
          generalize nextN 10 s = sn at *
          gi_wp2
          refine ⟨trivial, fun _ => by omega, ?_⟩
          refine (callsIn_wide.2 HN.out).mono ?_
          rintro e w' ⟨rfl, rfl⟩
          gi_wp2
          go_roundw
          case rel => exact ⟨sn, true, pre ++ [⟨s, hs⟩], rfl, rfl, HNL.out, fun _ => by rw [List.length_append]; exact HST.out, hJ3⟩
          case measure =>
            have h1 := HK.out
            have h2 := HKL.out
            show 20001 - keyN ((sn : Int)).toNat < 20001 - keyN ((s : Int)).toNat
            rw [Int.toNat_natCast, Int.toNat_natCast]
            omega
        · have HE := Lib.hid (show nextR 10 s = .returned (.tuple #[.int .i64 ((0 : Nat) : Int), .bool false]) by
            unfold nextR; rw [if_pos (show 2 ^ 10 ≤ nextN 10 s by omega), decide_eq_true (show 2 ^ 10 ≤ nextN 10 s by omega)]; rfl)
          have HKL := Lib.hid (keyN_lt s hs)
          rw [HE.out] at HN
          clear hst hnx
          gi_wp2
          refine ⟨trivial, fun _ => by omega, ?_⟩
          refine (callsIn_wide.2 HN.out).mono ?_
          rintro e w' ⟨rfl, rfl⟩
          gi_wp2
          go_roundw
          case rel => exact ⟨0, false, pre ++ [⟨s, hs⟩], rfl, rfl, by omega, (fun h => by cases h), hJ3⟩
          case measure =>
            have h2 := HKL.out
            show 0 < 20001 - keyN ((s : Int)).toNat
            rw [Int.toNat_natCast]
            omega
      · gi_wp2
        go_end0
        exact ⟨⟨_, rfl⟩, .inr ⟨pre ++ [⟨s, hs⟩], trivial, hJx3⟩⟩

set_option maxRecDepth 100000 in
set_option maxHeartbeats 4000000 in
/-- slices.first where no set is as asked. -/
theorem first_none (b0 b1 b2 b3 : Nat) (w : World) (eg : ∀ args w, (callFunc 151 args).run Tryz.prog w = .ok (.enter 151 args) w)
    (hcl : ∀ s : Nat, s < 1024 → ∀ W, Below w.heap.size w W → Calls Tryz.prog 151 #[.int .i64 (s : Int), .pointer (some ⟨b0, 0, none⟩), .pointer (some ⟨b1, 0, none⟩), .pointer (some ⟨b2, 0, none⟩), .pointer (some ⟨b3, 0, none⟩)] W fun e W' => e = .returned (.bool false) ∧ Below W.heap.size W W') :
    Calls Tryz.prog 150 #[.func (.func 151) #[] #[.pointer (some ⟨b0, 0, none⟩), .pointer (some ⟨b1, 0, none⟩), .pointer (some ⟨b2, 0, none⟩), .pointer (some ⟨b3, 0, none⟩)]] w fun e w' => e = .returned (.tuple #[.int .i64 0, .bool false]) ∧ Below w.heap.size w w' := by
  have HCL := Lib.hid hcl
  clear hcl
  refine (callsIn_wide (n := 8)).1 ?_
  refine callsIn_of_wp_marks Tryz.func150 rfl trivial ?_ rfl
  simp only [Tryz.ntmps150, List.size_toArray, List.length_cons, List.length_nil, Nat.reduceAdd, Nat.reduceSub, Array.replicate_succ, Array.replicate_zero, List.push_toArray, List.append_toArray, List.nil_append, List.cons_append]
  gi_wp2_with (refine ⟨trivial, ?_⟩; gi_at_call 165; refine (callsIn_wide.2 (sets_run _)).mono ?_; rintro e w' ⟨rfl, rfl⟩)
  have hb0 : Below w.heap.size w (((w.alloc (.cells #[.func (.func 151) #[] #[.pointer (some ⟨b0, 0, none⟩), .pointer (some ⟨b1, 0, none⟩), .pointer (some ⟨b2, 0, none⟩), .pointer (some ⟨b3, 0, none⟩)]] 87)).alloc (.cells #[.int .i64 0] 3)).alloc (.cells #[.bool false] 4)) := balloc (balloc (balloc (bref w) _) _) _
  have r0 : (((w.alloc (.cells #[.func (.func 151) #[] #[.pointer (some ⟨b0, 0, none⟩), .pointer (some ⟨b1, 0, none⟩), .pointer (some ⟨b2, 0, none⟩), .pointer (some ⟨b3, 0, none⟩)]] 87)).alloc (.cells #[.int .i64 0] 3)).alloc (.cells #[.bool false] 4)).heap[w.heap.size]? = some (.cells #[.func (.func 151) #[] #[.pointer (some ⟨b0, 0, none⟩), .pointer (some ⟨b1, 0, none⟩), .pointer (some ⟨b2, 0, none⟩), .pointer (some ⟨b3, 0, none⟩)]] 87 (0, 0)) := alloc_on (alloc_on (alloc_at rfl))
  have r1 : (((w.alloc (.cells #[.func (.func 151) #[] #[.pointer (some ⟨b0, 0, none⟩), .pointer (some ⟨b1, 0, none⟩), .pointer (some ⟨b2, 0, none⟩), .pointer (some ⟨b3, 0, none⟩)]] 87)).alloc (.cells #[.int .i64 0] 3)).alloc (.cells #[.bool false] 4)).heap[w.heap.size + 1]? = some (.cells #[.int .i64 0] 3 (0, 0)) := alloc_on (alloc_at (alloc_sz _ _))
  have r2 : (((w.alloc (.cells #[.func (.func 151) #[] #[.pointer (some ⟨b0, 0, none⟩), .pointer (some ⟨b1, 0, none⟩), .pointer (some ⟨b2, 0, none⟩), .pointer (some ⟨b3, 0, none⟩)]] 87)).alloc (.cells #[.int .i64 0] 3)).alloc (.cells #[.bool false] 4)).heap[w.heap.size + 1 + 1]? = some (.cells #[.bool false] 4 (0, 0)) := alloc_at (by rw [alloc_sz, alloc_sz])
  refine wpIn_rangeFunc_ownF rfl (by omega) (gf := 180) (lb := #[]) rfl trivial (enters_of Tryz.func180 (by kernel_rfl) rfl) (sets_stops (Below w.heap.size) (8 - 1) (by omega) _) belowK_t (belowK_b (by simp; omega)) (Below.refl _ _) (fun _ => rfl)
    (fun pre W => (W.cell? ⟨w.heap.size, 0, none⟩ = some (.func (.func 151) #[] #[.pointer (some ⟨b0, 0, none⟩), .pointer (some ⟨b1, 0, none⟩), .pointer (some ⟨b2, 0, none⟩), .pointer (some ⟨b3, 0, none⟩)]) ∧ W.cell? ⟨w.heap.size + 1, 0, none⟩ = some (.int .i64 0) ∧ W.frozen? ⟨w.heap.size + 1, 0, none⟩ = false ∧ W.cell? ⟨w.heap.size + 1 + 1, 0, none⟩ = some (.bool false) ∧ W.frozen? ⟨w.heap.size + 1 + 1, 0, none⟩ = false) ∧ Below w.heap.size w W)
    (fun _ _ _ => False)
    (OwnFrom.and (Own.from (fun s A B row hs hg hr => ⟨cell_kept hs.1 hg hr, cell_kept hs.2.1 hg hr, (frozen_kept hs.2.1 hg hr).trans hs.2.2.1, cell_kept hs.2.2.2.1 hg hr, (frozen_kept hs.2.2.2.1 hg hr).trans hs.2.2.2.2⟩) _) (ownFrom_below (Nat.le_refl _) (by simp; omega)))
    (fun _ _ _ _ _ hs _ _ => hs)
    ⟨⟨cell_of_row _ _ 0 _ _ (0, 0) r0, cell_of_row _ _ 0 _ _ (0, 0) r1, fr_of r1, cell_of_row _ _ 0 _ _ (0, 0) r2, fr_of r2⟩, hb0⟩
    (fun x => { tmps := #[.func (.func 151) #[] #[.pointer (some ⟨b0, 0, none⟩), .pointer (some ⟨b1, 0, none⟩), .pointer (some ⟨b2, 0, none⟩), .pointer (some ⟨b3, 0, none⟩)], .pointer (some ⟨w.heap.size, 0, none⟩), .pointer (some ⟨w.heap.size + 1, 0, none⟩), .pointer (some ⟨w.heap.size + 1 + 1, 0, none⟩), .int .i64 ((x.val : Nat) : Int), .func (.func 180) #[] #[], .int .i64 ((x.val : Nat) : Int), undef, undef, undef, undef], defers := [] }) ?assign ?body ?done ?stop
  case assign =>
    intro l x W K hK
    gi_wp2
    exact hK
  case body =>
    rintro l pre x W ⟨⟨h0, h1, h2, h3, h4⟩, hB⟩ _
    have hrun := HCL.out x.val x.isLt W hB
    have HRN := Lib.hid hrun
    clear hrun
    gi_wp2
    refine ⟨trivial, ?_⟩
    refine (CallsIn.inRound l (callsIn_wide.2 HRN.out)).mono ?_
    rintro e w' ⟨rfl, hb⟩
    have HF := Lib.hid (show KeepsOthers W w' ∧ Below w.heap.size W w' ∧ ((w'.cell? ⟨w.heap.size, 0, none⟩ = some (.func (.func 151) #[] #[.pointer (some ⟨b0, 0, none⟩), .pointer (some ⟨b1, 0, none⟩), .pointer (some ⟨b2, 0, none⟩), .pointer (some ⟨b3, 0, none⟩)]) ∧ w'.cell? ⟨w.heap.size + 1, 0, none⟩ = some (.int .i64 0) ∧ w'.frozen? ⟨w.heap.size + 1, 0, none⟩ = false ∧ w'.cell? ⟨w.heap.size + 1 + 1, 0, none⟩ = some (.bool false) ∧ w'.frozen? ⟨w.heap.size + 1 + 1, 0, none⟩ = false) ∧ Below w.heap.size w w') from
      ⟨KeepsOthers.of_grownBy (grown_below (r := none) hb) (by intro j o e; cases e), hb.mono hB.size, ⟨(hb.cell (cell_lt h0)).trans h0, (hb.cell (cell_lt h1)).trans h1, (frozen_kept h1 (grown_below (r := none) hb) (by intro j e; cases e)).trans h2, (hb.cell (cell_lt h3)).trans h3, (frozen_kept h3 (grown_below (r := none) hb) (by intro j e; cases e)).trans h4⟩, bstep hB hb⟩)
    clear hb h0 h1 h2 h3 h4 hB
    gi_wp2
    exact HF.out
  case done =>
    rintro D ys W hD _ ⟨⟨h0, h1, h2, h3, h4⟩, hB⟩ hK
    gi_wp2
    have hK' := ((KeepsOthers.setCell W ⟨w.heap.size + 1, 0, none⟩ (.int .i64 0)).trans (KeepsOthers.setCell _ ⟨w.heap.size + 1 + 1, 0, none⟩ (.bool false))).same D _ hK rfl
    refine ⟨by simp, .inl ⟨_, _, rfl, run_takeDeferred hK', ?_⟩⟩
    have e1 : ((W.setCell ⟨w.heap.size + 1, 0, none⟩ (.int .i64 0)).setCell ⟨w.heap.size + 1 + 1, 0, none⟩ (.bool false)).cell? ⟨w.heap.size + 1, 0, none⟩ = some (.int .i64 0) :=
      (World.cell?_setCell_other _ _ _ _ (by intro e; injection e with e1; omega)).trans (World.cell?_setCell_same _ _ _ h1)
    have e2 : ((W.setCell ⟨w.heap.size + 1, 0, none⟩ (.int .i64 0)).setCell ⟨w.heap.size + 1 + 1, 0, none⟩ (.bool false)).cell? ⟨w.heap.size + 1 + 1, 0, none⟩ = some (.bool false) :=
      World.cell?_setCell_same (u := .bool false) _ _ _ ((World.cell?_setCell_other _ _ _ _ (by intro e; injection e with e1; omega)).trans h3)
    have c1 := cell_kept e1 (grownBy_putObj' _ D (.deferred none)) (fun r e => by cases e; exact ⟨_, hK', rfl⟩)
    have c2 := cell_kept e2 (grownBy_putObj' _ D (.deferred none)) (fun r e => by cases e; exact ⟨_, hK', rfl⟩)
    refine ⟨.tuple #[.int .i64 0, .bool false], ?_, rfl, (bset (bset hB (p := ⟨w.heap.size + 1, 0, none⟩) (by show w.heap.size ≤ w.heap.size + 1; omega) _) (p := ⟨w.heap.size + 1 + 1, 0, none⟩) (by show w.heap.size ≤ w.heap.size + 1 + 1; omega) _).trans (belowK_b (w := w) (Nat.le_refl _) _ D _ _ (by simp at hD; omega) hK' rfl rfl)⟩
    simp [results, Tryz.f150, go_sem, c1, c2]
  case stop =>
    rintro D c pre W _ _ h _
    exact h.elim

end Go.Proofs.YtacpfcckilnbfaaGreat

namespace Go.Proofs.YtacpfcckilnbfaaGreat
set_option linter.unusedVariables false
set_option linter.unusedSimpArgs false
open Go.RowKit

def ImplT (w : World) (d : Nat) (T U : Tree) (t : Int) (A1 : Option Addr) (n1 c1 : Nat) (A2 : Option Addr) (n2 c2 : Nat) (t' : Int) (B1 : Option Addr) (m1 e1 : Nat) (B2 : Option Addr) (m2 e2 : Nat) (W : World) : Prop :=
  TAt (fun _ => True) d W (.int .i64 t) (.slice A1 n1 c1) (.slice A2 n2 c2) T ∧ TAt (fun _ => True) d W (.int .i64 t') (.slice B1 m1 e1) (.slice B2 m2 e2) U ∧ Below w.heap.size w W

theorem implKeep {w W W' : World} {d ub fb ab bb u : Nat} {T U : Tree} {t t' : Int} {A1 A2 B1 B2 : Option Addr} {n1 c1 n2 c2 m1 e1 m2 e2 : Nat}
    (h : W.cell? ⟨ub, 0, none⟩ = some (.int .i64 (u : Int)) ∧ W.cell? ⟨fb, 0, none⟩ = some (.func (.func 135) #[] #[]) ∧ W.cell? ⟨ab, 0, none⟩ = some (.int .i64 t) ∧ W.cell? ⟨ab, 1, none⟩ = some (.slice A1 n1 c1) ∧ W.cell? ⟨ab, 2, none⟩ = some (.slice A2 n2 c2) ∧ W.cell? ⟨bb, 0, none⟩ = some (.int .i64 t') ∧ W.cell? ⟨bb, 1, none⟩ = some (.slice B1 m1 e1) ∧ W.cell? ⟨bb, 2, none⟩ = some (.slice B2 m2 e2) ∧ ImplT w d T U t A1 n1 c1 A2 n2 c2 t' B1 m1 e1 B2 m2 e2 W) (hb : Below W.heap.size W W') : W'.cell? ⟨ub, 0, none⟩ = some (.int .i64 (u : Int)) ∧ W'.cell? ⟨fb, 0, none⟩ = some (.func (.func 135) #[] #[]) ∧ W'.cell? ⟨ab, 0, none⟩ = some (.int .i64 t) ∧ W'.cell? ⟨ab, 1, none⟩ = some (.slice A1 n1 c1) ∧ W'.cell? ⟨ab, 2, none⟩ = some (.slice A2 n2 c2) ∧ W'.cell? ⟨bb, 0, none⟩ = some (.int .i64 t') ∧ W'.cell? ⟨bb, 1, none⟩ = some (.slice B1 m1 e1) ∧ W'.cell? ⟨bb, 2, none⟩ = some (.slice B2 m2 e2) ∧ ImplT w d T U t A1 n1 c1 A2 n2 c2 t' B1 m1 e1 B2 m2 e2 W' := by
  obtain ⟨h0, h1, h2, h3, h4, h5, h6, h7, h8⟩ := h
  have c : ∀ {q o : Nat} {v : Value}, W.cell? ⟨q, o, none⟩ = some v → W'.cell? ⟨q, o, none⟩ = some v := fun {q o} {v} hv => (hb.cell (cell_lt hv)).trans hv
  exact ⟨c h0, c h1, c h2, c h3, c h4, c h5, c h6, c h7, h8.1.below hb, h8.2.1.below hb, bstep h8.2.2 hb⟩

theorem implT {w W : World} {d ub fb ab bb u : Nat} {T U : Tree} {t t' : Int} {A1 A2 B1 B2 : Option Addr} {n1 c1 n2 c2 m1 e1 m2 e2 : Nat}
    (h : W.cell? ⟨ub, 0, none⟩ = some (.int .i64 (u : Int)) ∧ W.cell? ⟨fb, 0, none⟩ = some (.func (.func 135) #[] #[]) ∧ W.cell? ⟨ab, 0, none⟩ = some (.int .i64 t) ∧ W.cell? ⟨ab, 1, none⟩ = some (.slice A1 n1 c1) ∧ W.cell? ⟨ab, 2, none⟩ = some (.slice A2 n2 c2) ∧ W.cell? ⟨bb, 0, none⟩ = some (.int .i64 t') ∧ W.cell? ⟨bb, 1, none⟩ = some (.slice B1 m1 e1) ∧ W.cell? ⟨bb, 2, none⟩ = some (.slice B2 m2 e2) ∧ ImplT w d T U t A1 n1 c1 A2 n2 c2 t' B1 m1 e1 B2 m2 e2 W) : ImplT w d T U t A1 n1 c1 A2 n2 c2 t' B1 m1 e1 B2 m2 e2 W := h.2.2.2.2.2.2.2.2

set_option maxHeartbeats 400000 in
theorem impl1_run (x y : Bool) (w : World) : Calls Tryz.prog 135 #[.bool x, .bool y] w fun e w' => e = .returned (.bool (x && !y)) ∧ w = w' := by
  go_enter Tryz.func135, Tryz.ntmps135
  cases x
  · go_wp2_with fail
    go_ret
    exact ⟨rfl, rfl⟩
  · go_wp2_with fail
    go_ret
    exact ⟨rfl, rfl⟩

set_option maxRecDepth 100000 in
set_option maxHeartbeats 8000000 in
theorem cmp1_run (d : Nat) (T U : Tree) (t t' : Int) (A1 A2 B1 B2 : Option Addr) (n1 c1 n2 c2 m1 e1 m2 e2 : Nat) (ub fb ab bb u s : Nat) (w : World) (hs : s < 1024) (hu : u < 1024) (himp : satB d T (s : Int) = true → satB d U (s : Int) = true)
    (h : w.cell? ⟨ub, 0, none⟩ = some (.int .i64 (u : Int)) ∧ w.cell? ⟨fb, 0, none⟩ = some (.func (.func 135) #[] #[]) ∧ w.cell? ⟨ab, 0, none⟩ = some (.int .i64 t) ∧ w.cell? ⟨ab, 1, none⟩ = some (.slice A1 n1 c1) ∧ w.cell? ⟨ab, 2, none⟩ = some (.slice A2 n2 c2) ∧ w.cell? ⟨bb, 0, none⟩ = some (.int .i64 t') ∧ w.cell? ⟨bb, 1, none⟩ = some (.slice B1 m1 e1) ∧ w.cell? ⟨bb, 2, none⟩ = some (.slice B2 m2 e2) ∧ ImplT w d T U t A1 n1 c1 A2 n2 c2 t' B1 m1 e1 B2 m2 e2 w) :
    Calls Tryz.prog 151 #[.int .i64 (s : Int), .pointer (some ⟨ub, 0, none⟩), .pointer (some ⟨fb, 0, none⟩), .pointer (some ⟨ab, 0, none⟩), .pointer (some ⟨bb, 0, none⟩)] w fun e w' => e = .returned (.bool false) ∧ Below w.heap.size w w' := by
  have hand := andNot_nat s u hs hu
  obtain ⟨x, hx⟩ : ∃ x, satB d T (s : Int) = x := ⟨_, rfl⟩
  obtain ⟨y, hy⟩ : ∃ y, satB d U (s : Int) = y := ⟨_, rfl⟩
  have HX := Lib.hid hx
  have HY := Lib.hid hy
  have HXY := Lib.hid (show (x && !y) = false from by
    cases x
    · rfl
    · have := himp hx
      rw [← hy, this]; rfl)
  have HS := Lib.hid (implKeep h (bdrewT w))
  clear hx hy himp h
  generalize s ^^^ (s &&& u) = q at *
  by_cases hq : q = 0
  · have qb : ((q : Int) == 0) = true := by rw [hq]; rfl
    go_enter Tryz.func151, Tryz.ntmps151
    go_upto_region 1 with fail
    have hS := HS.out
    refine wp_region_noPanic ?_
    refine wp_region_held_drew (S := fun W => W.cell? ⟨ub, 0, none⟩ = some (.int .i64 (u : Int)) ∧ W.cell? ⟨fb, 0, none⟩ = some (.func (.func 135) #[] #[]) ∧ W.cell? ⟨ab, 0, none⟩ = some (.int .i64 t) ∧ W.cell? ⟨ab, 1, none⟩ = some (.slice A1 n1 c1) ∧ W.cell? ⟨ab, 2, none⟩ = some (.slice A2 n2 c2) ∧ W.cell? ⟨bb, 0, none⟩ = some (.int .i64 t') ∧ W.cell? ⟨bb, 1, none⟩ = some (.slice B1 m1 e1) ∧ W.cell? ⟨bb, 2, none⟩ = some (.slice B2 m2 e2) ∧ ImplT w d T U t A1 n1 c1 A2 n2 c2 t' B1 m1 e1 B2 m2 e2 W) (by kernel_rfl) hS (fun hHeld => ?_)
    refine take_d (some 7) (i := 0) (v := ?_) rfl rfl (by kernel_rfl) (by kernel_rfl) (by kernel_rfl) (fun _ _ _ h => h) (Or.inl ⟨by rfl, ?_⟩) (by assumption) ?_
    rotate_left
    · intro w hSw; (try dsimp only at hSw); go_simp; (try with_reducible rfl)
    try simp only [Act.put, List.setIfInBounds_toArray, List.set_cons_zero, List.set_cons_succ]
    refine take_d (some 8) (i := 1) (v := ?_) rfl rfl (by kernel_rfl) (by kernel_rfl) (by kernel_rfl) (fun _ _ _ h => h) (Or.inl ⟨by rfl, ?_⟩) (by assumption) ?_
    rotate_left
    · intro w hSw; (try dsimp only at hSw); go_simp; (try with_reducible rfl)
    try simp only [Act.put, List.setIfInBounds_toArray, List.set_cons_zero, List.set_cons_succ]
    refine take_d (some 9) (i := 2) (v := ?_) rfl rfl (by kernel_rfl) (by kernel_rfl) (by kernel_rfl) (fun _ _ _ h => h) (Or.inl ⟨by rfl, ?_⟩) (by assumption) ?_
    rotate_left
    · intro w hSw; (try dsimp only at hSw); go_simp; (try with_reducible rfl)
    try simp only [Act.put, List.setIfInBounds_toArray, List.set_cons_zero, List.set_cons_succ]
    refine take_d (some 10) (i := 3) (v := ?_) rfl rfl (by kernel_rfl) (by kernel_rfl) (by kernel_rfl) (fun _ _ _ h => h) (Or.inl ⟨by rfl, ?_⟩) (by assumption) ?_
    rotate_left
    · intro w hSw; (try dsimp only at hSw); go_simp; (try with_reducible rfl)
    try simp only [Act.put, List.setIfInBounds_toArray, List.set_cons_zero, List.set_cons_succ]
    refine take_d (some 11) (i := 4) (v := ?_) rfl rfl (by kernel_rfl) (by kernel_rfl) (by kernel_rfl) (fun _ _ _ h => h) (Or.inl ⟨by rfl, ?_⟩) (by assumption) ?_
    rotate_left
    · intro w hSw; (try dsimp only at hSw); go_simp; (try with_reducible rfl)
    try simp only [Act.put, List.setIfInBounds_toArray, List.set_cons_zero, List.set_cons_succ]
    refine take_d (some 12) (i := 5) (v := ?_) rfl rfl (by kernel_rfl) (by kernel_rfl) (by kernel_rfl) (fun _ _ _ h => h) (Or.inl ⟨by rfl, ?_⟩) (by assumption) ?_
    rotate_left
    · intro w hSw; (try dsimp only at hSw); go_simp; (try with_reducible rfl)
    try simp only [Act.put, List.setIfInBounds_toArray, List.set_cons_zero, List.set_cons_succ]
    refine take_d (some 13) (i := 6) (v := ?_) rfl rfl (by kernel_rfl) (by kernel_rfl) (by kernel_rfl) (fun _ _ _ h => h) (Or.inl ⟨by rfl, ?_⟩) (by assumption) ?_
    rotate_left
    · intro w hSw; (try dsimp only at hSw); go_simp; (try with_reducible rfl)
    try simp only [Act.put, List.setIfInBounds_toArray, List.set_cons_zero, List.set_cons_succ]
    refine take_d (some 14) (i := 7) (v := ?_) rfl rfl (by kernel_rfl) (by kernel_rfl) (by kernel_rfl) (fun _ _ _ h => h) (Or.inl ⟨by rfl, ?_⟩) (by assumption) ?_
    rotate_left
    · intro w hSw; (try dsimp only at hSw); go_simp; (try with_reducible rfl)
    try simp only [Act.put, List.setIfInBounds_toArray, List.set_cons_zero, List.set_cons_succ]
    refine take_d (some 16) (i := 9) (v := ?_) rfl rfl (by kernel_rfl) (by kernel_rfl) (by kernel_rfl) (fun _ _ _ h => h) (Or.inl ⟨by rfl, ?_⟩) (by assumption) ?_
    rotate_left
    · intro w hSw; (try dsimp only at hSw); go_simp; (try with_reducible rfl)
    try simp only [Act.put, List.setIfInBounds_toArray, List.set_cons_zero, List.set_cons_succ]
    refine take_d (some 17) (i := 10) (v := ?_) rfl rfl (by kernel_rfl) (by kernel_rfl) (by kernel_rfl) (fun _ _ _ h => h) (Or.inl ⟨by rfl, ?_⟩) (by assumption) ?_
    rotate_left
    · intro w hSw; (try dsimp only at hSw); go_simp; (try with_reducible rfl)
    try simp only [Act.put, List.setIfInBounds_toArray, List.set_cons_zero, List.set_cons_succ]
    refine wpAnyH_ready (rs := [8]) (by kernel_rfl) (by simp) ?_
    refine AllReadyH.cons rfl (fun K hK => ?_) AllReadyH.nil
    go_simp
    refine (satisfied_run (fun _ => True) d T _ _ _ (s : Int) _ (implT (by assumption)).1).mono ?_
    rintro e WK ⟨rfl, hbK⟩
    have hSK := implKeep (by assumption) hbK
    clear hbK
    rw [HX.out]
    go_wp2_with fail
    refine hK.out _ _ ?_ (fun hHeld => ?_)
    · exact hSK
    clear hSK
    have hSK := hHeld
    clear hHeld
    clear hK K
    try simp only [Act.put, List.setIfInBounds_toArray, List.set_cons_zero, List.set_cons_succ]
    refine wpAnyH_ready (rs := [11]) (by kernel_rfl) (by simp) ?_
    refine AllReadyH.cons rfl (fun K hK => ?_) AllReadyH.nil
    go_simp
    refine (satisfied_run (fun _ => True) d U _ _ _ (s : Int) _ (implT (by assumption)).2.1).mono ?_
    rintro e WK ⟨rfl, hbK⟩
    have hSK := implKeep (by assumption) hbK
    clear hbK
    rw [HY.out]
    go_wp2_with fail
    refine hK.out _ _ ?_ (fun hHeld => ?_)
    · exact hSK
    clear hSK
    have hSK := hHeld
    clear hHeld
    clear hK K
    try simp only [Act.put, List.setIfInBounds_toArray, List.set_cons_zero, List.set_cons_succ]
    refine wpAnyH_ready (rs := [12]) (by kernel_rfl) (by simp) ?_
    refine AllReadyH.cons rfl (fun K hK => ?_) AllReadyH.nil
    go_simp
    refine (impl1_run x y _).mono ?_
    rintro e WK ⟨rfl, rfl⟩
    have hSK : WK.cell? ⟨ub, 0, none⟩ = some (.int .i64 (u : Int)) ∧ WK.cell? ⟨fb, 0, none⟩ = some (.func (.func 135) #[] #[]) ∧ WK.cell? ⟨ab, 0, none⟩ = some (.int .i64 t) ∧ WK.cell? ⟨ab, 1, none⟩ = some (.slice A1 n1 c1) ∧ WK.cell? ⟨ab, 2, none⟩ = some (.slice A2 n2 c2) ∧ WK.cell? ⟨bb, 0, none⟩ = some (.int .i64 t') ∧ WK.cell? ⟨bb, 1, none⟩ = some (.slice B1 m1 e1) ∧ WK.cell? ⟨bb, 2, none⟩ = some (.slice B2 m2 e2) ∧ ImplT w d T U t A1 n1 c1 A2 n2 c2 t' B1 m1 e1 B2 m2 e2 WK := by assumption
    rw [HXY.out]
    go_wp2_with fail
    refine hK.out _ _ ?_ (fun hHeld => ?_)
    · exact hSK
    clear hSK
    have hSK := hHeld
    clear hHeld
    clear hK K
    try simp only [Act.put, List.setIfInBounds_toArray, List.set_cons_zero, List.set_cons_succ]
    refine take_d (some 20) (i := 13) (v := ?_) rfl rfl (by kernel_rfl) (by kernel_rfl) (by kernel_rfl) (fun _ _ _ h => h) (Or.inl ⟨by rfl, ?_⟩) (by assumption) ?_
    rotate_left
    · intro w hSw; (try dsimp only at hSw); go_simp; (try with_reducible rfl)
    try simp only [Act.put, List.setIfInBounds_toArray, List.set_cons_zero, List.set_cons_succ]
    refine take_d (some 6) (i := 14) (v := ?_) rfl rfl (by kernel_rfl) (by kernel_rfl) (by kernel_rfl) (fun _ _ _ h => h) (Or.inl ⟨by rfl, ?_⟩) (by assumption) ?_
    rotate_left
    · intro w hSw; (try dsimp only at hSw); go_simp; (try with_reducible rfl)
    try simp only [Act.put, List.setIfInBounds_toArray, List.set_cons_zero, List.set_cons_succ]
    refine wpAnyH_done (by kernel_rfl) ?_ _
    refine NoPanic.normal ?_
    have HB6 := Lib.hid (implT hSK).2.2
    clear hSK hS
    go_wp2_with fail
    go_ret
    exact ⟨rfl, HB6.out⟩
  · have qb : ((q : Int) == 0) = false := by rw [beq_eq_false_iff_ne]; omega
    go_enter Tryz.func151, Tryz.ntmps151
    go_upto_region 1 with fail
    have hS := HS.out
    refine wp_region_noPanic ?_
    refine wp_region_held_drew (S := fun W => W.cell? ⟨ub, 0, none⟩ = some (.int .i64 (u : Int)) ∧ W.cell? ⟨fb, 0, none⟩ = some (.func (.func 135) #[] #[]) ∧ W.cell? ⟨ab, 0, none⟩ = some (.int .i64 t) ∧ W.cell? ⟨ab, 1, none⟩ = some (.slice A1 n1 c1) ∧ W.cell? ⟨ab, 2, none⟩ = some (.slice A2 n2 c2) ∧ W.cell? ⟨bb, 0, none⟩ = some (.int .i64 t') ∧ W.cell? ⟨bb, 1, none⟩ = some (.slice B1 m1 e1) ∧ W.cell? ⟨bb, 2, none⟩ = some (.slice B2 m2 e2) ∧ ImplT w d T U t A1 n1 c1 A2 n2 c2 t' B1 m1 e1 B2 m2 e2 W) (by kernel_rfl) hS (fun hHeld => ?_)
    refine take_d (some 7) (i := 0) (v := ?_) rfl rfl (by kernel_rfl) (by kernel_rfl) (by kernel_rfl) (fun _ _ _ h => h) (Or.inl ⟨by rfl, ?_⟩) (by assumption) ?_
    rotate_left
    · intro w hSw; (try dsimp only at hSw); go_simp; (try with_reducible rfl)
    try simp only [Act.put, List.setIfInBounds_toArray, List.set_cons_zero, List.set_cons_succ]
    refine take_d (some 8) (i := 1) (v := ?_) rfl rfl (by kernel_rfl) (by kernel_rfl) (by kernel_rfl) (fun _ _ _ h => h) (Or.inl ⟨by rfl, ?_⟩) (by assumption) ?_
    rotate_left
    · intro w hSw; (try dsimp only at hSw); go_simp; (try with_reducible rfl)
    try simp only [Act.put, List.setIfInBounds_toArray, List.set_cons_zero, List.set_cons_succ]
    refine take_d (some 9) (i := 2) (v := ?_) rfl rfl (by kernel_rfl) (by kernel_rfl) (by kernel_rfl) (fun _ _ _ h => h) (Or.inl ⟨by rfl, ?_⟩) (by assumption) ?_
    rotate_left
    · intro w hSw; (try dsimp only at hSw); go_simp; (try with_reducible rfl)
    try simp only [Act.put, List.setIfInBounds_toArray, List.set_cons_zero, List.set_cons_succ]
    refine take_d (some 10) (i := 3) (v := ?_) rfl rfl (by kernel_rfl) (by kernel_rfl) (by kernel_rfl) (fun _ _ _ h => h) (Or.inl ⟨by rfl, ?_⟩) (by assumption) ?_
    rotate_left
    · intro w hSw; (try dsimp only at hSw); go_simp; (try with_reducible rfl)
    try simp only [Act.put, List.setIfInBounds_toArray, List.set_cons_zero, List.set_cons_succ]
    refine take_d (some 11) (i := 4) (v := ?_) rfl rfl (by kernel_rfl) (by kernel_rfl) (by kernel_rfl) (fun _ _ _ h => h) (Or.inl ⟨by rfl, ?_⟩) (by assumption) ?_
    rotate_left
    · intro w hSw; (try dsimp only at hSw); go_simp; (try with_reducible rfl)
    try simp only [Act.put, List.setIfInBounds_toArray, List.set_cons_zero, List.set_cons_succ]
    refine take_d (some 12) (i := 5) (v := undef) rfl rfl (by kernel_rfl) (by kernel_rfl) (by kernel_rfl) (fun _ _ _ h => h) (Or.inr ⟨by rfl, rfl⟩) (by assumption) ?_
    try simp only [Act.put, List.setIfInBounds_toArray, List.set_cons_zero, List.set_cons_succ]
    refine take_d (some 13) (i := 6) (v := undef) rfl rfl (by kernel_rfl) (by kernel_rfl) (by kernel_rfl) (fun _ _ _ h => h) (Or.inr ⟨by rfl, rfl⟩) (by assumption) ?_
    try simp only [Act.put, List.setIfInBounds_toArray, List.set_cons_zero, List.set_cons_succ]
    refine take_d (some 14) (i := 7) (v := undef) rfl rfl (by kernel_rfl) (by kernel_rfl) (by kernel_rfl) (fun _ _ _ h => h) (Or.inr ⟨by rfl, rfl⟩) (by assumption) ?_
    try simp only [Act.put, List.setIfInBounds_toArray, List.set_cons_zero, List.set_cons_succ]
    refine take_d (some 15) (i := 8) (v := undef) rfl rfl (by kernel_rfl) (by kernel_rfl) (by kernel_rfl) (fun _ _ _ h => h) (Or.inr ⟨by rfl, rfl⟩) (by assumption) ?_
    try simp only [Act.put, List.setIfInBounds_toArray, List.set_cons_zero, List.set_cons_succ]
    refine take_d (some 16) (i := 9) (v := undef) rfl rfl (by kernel_rfl) (by kernel_rfl) (by kernel_rfl) (fun _ _ _ h => h) (Or.inr ⟨by rfl, rfl⟩) (by assumption) ?_
    try simp only [Act.put, List.setIfInBounds_toArray, List.set_cons_zero, List.set_cons_succ]
    refine take_d (some 17) (i := 10) (v := undef) rfl rfl (by kernel_rfl) (by kernel_rfl) (by kernel_rfl) (fun _ _ _ h => h) (Or.inr ⟨by rfl, rfl⟩) (by assumption) ?_
    try simp only [Act.put, List.setIfInBounds_toArray, List.set_cons_zero, List.set_cons_succ]
    refine take_d (some 18) (i := 11) (v := undef) rfl rfl (by kernel_rfl) (by kernel_rfl) (by kernel_rfl) (fun _ _ _ h => h) (Or.inr ⟨by rfl, rfl⟩) (by assumption) ?_
    try simp only [Act.put, List.setIfInBounds_toArray, List.set_cons_zero, List.set_cons_succ]
    refine take_d (some 19) (i := 12) (v := undef) rfl rfl (by kernel_rfl) (by kernel_rfl) (by kernel_rfl) (fun _ _ _ h => h) (Or.inr ⟨by rfl, rfl⟩) (by assumption) ?_
    try simp only [Act.put, List.setIfInBounds_toArray, List.set_cons_zero, List.set_cons_succ]
    refine take_d (some 20) (i := 13) (v := ?_) rfl rfl (by kernel_rfl) (by kernel_rfl) (by kernel_rfl) (fun _ _ _ h => h) (Or.inl ⟨by rfl, ?_⟩) (by assumption) ?_
    rotate_left
    · intro w hSw; (try dsimp only at hSw); go_simp; (try with_reducible rfl)
    try simp only [Act.put, List.setIfInBounds_toArray, List.set_cons_zero, List.set_cons_succ]
    refine take_d (some 6) (i := 14) (v := ?_) rfl rfl (by kernel_rfl) (by kernel_rfl) (by kernel_rfl) (fun _ _ _ h => h) (Or.inl ⟨by rfl, ?_⟩) (by assumption) ?_
    rotate_left
    · intro w hSw; (try dsimp only at hSw); go_simp; (try with_reducible rfl)
    try simp only [Act.put, List.setIfInBounds_toArray, List.set_cons_zero, List.set_cons_succ]
    refine wpAnyH_done (by kernel_rfl) ?_ _
    refine NoPanic.normal ?_
    have HB6 := Lib.hid (implT hHeld).2.2
    clear hS
    go_wp2_with fail
    go_ret
    exact ⟨rfl, HB6.out⟩

end Go.Proofs.YtacpfcckilnbfaaGreat

namespace Go.Proofs.YtacpfcckilnbfaaGreat
set_option linter.unusedVariables false
set_option linter.unusedSimpArgs false
open Go.RowKit

structure CmpW (w : World) (g : Nat) (n : Nat) (T U : Tree) (t : Int) (A1 : Option Addr) (n1 c1 : Nat) (A2 : Option Addr) (n2 c2 : Nat) (t' : Int) (B1 : Option Addr) (m1 e1 : Nat) (B2 : Option Addr) (m2 e2 : Nat) (W : World) : Prop where
  a : W.heap[g]? = some (.cells #[.int .i64 t, .slice A1 n1 c1, .slice A2 n2 c2] 73 (0, 0))
  b : W.heap[g + 1]? = some (.cells #[.int .i64 t', .slice B1 m1 e1, .slice B2 m2 e2] 73 (0, 0))
  f : W.heap[g + 2]? = some (.cells #[.func (.func 135) #[] #[]] 130 (0, 0))
  tt : TAt (fun b => b < g) 3 W (.int .i64 t) (.slice A1 n1 c1) (.slice A2 n2 c2) T
  uu : TAt (fun b => b < g) 3 W (.int .i64 t') (.slice B1 m1 e1) (.slice B2 m2 e2) U
  bel : Below w.heap.size w W
  glt : w.heap.size = g

theorem CmpW.below {w W W' : World} {g n : Nat} {T U : Tree} {t t' : Int} {A1 A2 B1 B2 : Option Addr} {n1 c1 n2 c2 m1 e1 m2 e2 : Nat} (h : CmpW w g n T U t A1 n1 c1 A2 n2 c2 t' B1 m1 e1 B2 m2 e2 W) (hb : Below W.heap.size W W') : CmpW w g n T U t A1 n1 c1 A2 n2 c2 t' B1 m1 e1 B2 m2 e2 W' :=
  ⟨(hb.block _ (Array.getElem?_eq_some_iff.1 h.a).1).trans h.a, (hb.block _ (Array.getElem?_eq_some_iff.1 h.b).1).trans h.b, (hb.block _ (Array.getElem?_eq_some_iff.1 h.f).1).trans h.f, h.tt.below hb, h.uu.below hb, bstep h.bel hb, h.glt⟩

theorem CmpW.cs {w W : World} {g n : Nat} {T U : Tree} {t t' : Int} {A1 A2 B1 B2 : Option Addr} {n1 c1 n2 c2 m1 e1 m2 e2 : Nat} (h : CmpW w g n T U t A1 n1 c1 A2 n2 c2 t' B1 m1 e1 B2 m2 e2 W) :
    W.cell? ⟨g, 0, none⟩ = some (.int .i64 t) ∧ W.cell? ⟨g, 1, none⟩ = some (.slice A1 n1 c1) ∧ W.cell? ⟨g, 2, none⟩ = some (.slice A2 n2 c2) ∧ W.cell? ⟨g + 1, 0, none⟩ = some (.int .i64 t') ∧ W.cell? ⟨g + 1, 1, none⟩ = some (.slice B1 m1 e1) ∧ W.cell? ⟨g + 1, 2, none⟩ = some (.slice B2 m2 e2) ∧ W.cell? ⟨g + 2, 0, none⟩ = some (.func (.func 135) #[] #[]) ∧ CmpW w g n T U t A1 n1 c1 A2 n2 c2 t' B1 m1 e1 B2 m2 e2 W :=
  ⟨cell_of_row _ _ 0 _ _ (0, 0) h.a, cell_of_row _ _ 1 _ _ (0, 0) h.a, cell_of_row _ _ 2 _ _ (0, 0) h.a, cell_of_row _ _ 0 _ _ (0, 0) h.b, cell_of_row _ _ 1 _ _ (0, 0) h.b, cell_of_row _ _ 2 _ _ (0, 0) h.b, cell_of_row _ _ 0 _ _ (0, 0) h.f, h⟩

theorem cmpKeep {w W W' : World} {g n : Nat} {T U : Tree} {t t' : Int} {A1 A2 B1 B2 : Option Addr} {n1 c1 n2 c2 m1 e1 m2 e2 : Nat} (h : W.cell? ⟨g, 0, none⟩ = some (.int .i64 t) ∧ W.cell? ⟨g, 1, none⟩ = some (.slice A1 n1 c1) ∧ W.cell? ⟨g, 2, none⟩ = some (.slice A2 n2 c2) ∧ W.cell? ⟨g + 1, 0, none⟩ = some (.int .i64 t') ∧ W.cell? ⟨g + 1, 1, none⟩ = some (.slice B1 m1 e1) ∧ W.cell? ⟨g + 1, 2, none⟩ = some (.slice B2 m2 e2) ∧ W.cell? ⟨g + 2, 0, none⟩ = some (.func (.func 135) #[] #[]) ∧ CmpW w g n T U t A1 n1 c1 A2 n2 c2 t' B1 m1 e1 B2 m2 e2 W) (hb : Below W.heap.size W W') :
    W'.cell? ⟨g, 0, none⟩ = some (.int .i64 t) ∧ W'.cell? ⟨g, 1, none⟩ = some (.slice A1 n1 c1) ∧ W'.cell? ⟨g, 2, none⟩ = some (.slice A2 n2 c2) ∧ W'.cell? ⟨g + 1, 0, none⟩ = some (.int .i64 t') ∧ W'.cell? ⟨g + 1, 1, none⟩ = some (.slice B1 m1 e1) ∧ W'.cell? ⟨g + 1, 2, none⟩ = some (.slice B2 m2 e2) ∧ W'.cell? ⟨g + 2, 0, none⟩ = some (.func (.func 135) #[] #[]) ∧ CmpW w g n T U t A1 n1 c1 A2 n2 c2 t' B1 m1 e1 B2 m2 e2 W' := (h.2.2.2.2.2.2.2.below hb).cs

theorem cmpW {w W : World} {g n : Nat} {T U : Tree} {t t' : Int} {A1 A2 B1 B2 : Option Addr} {n1 c1 n2 c2 m1 e1 m2 e2 : Nat} (h : W.cell? ⟨g, 0, none⟩ = some (.int .i64 t) ∧ W.cell? ⟨g, 1, none⟩ = some (.slice A1 n1 c1) ∧ W.cell? ⟨g, 2, none⟩ = some (.slice A2 n2 c2) ∧ W.cell? ⟨g + 1, 0, none⟩ = some (.int .i64 t') ∧ W.cell? ⟨g + 1, 1, none⟩ = some (.slice B1 m1 e1) ∧ W.cell? ⟨g + 1, 2, none⟩ = some (.slice B2 m2 e2) ∧ W.cell? ⟨g + 2, 0, none⟩ = some (.func (.func 135) #[] #[]) ∧ CmpW w g n T U t A1 n1 c1 A2 n2 c2 t' B1 m1 e1 B2 m2 e2 W) : CmpW w g n T U t A1 n1 c1 A2 n2 c2 t' B1 m1 e1 B2 m2 e2 W := h.2.2.2.2.2.2.2

theorem or_i64 (a b : Nat) (ha : a < 1024) (hb : b < 1024) : bits .or .i64 (a : Int) (b : Int) = ((a ||| b : Nat) : Int) := i64_or_nat a b (by omega) (by omega)

theorem qAlloc {w W : World} {g n : Nat} {T U : Tree} {t t' : Int} {A1 A2 B1 B2 : Option Addr} {n1 c1 n2 c2 m1 e1 m2 e2 : Nat} (h : W.cell? ⟨g, 0, none⟩ = some (.int .i64 t) ∧ W.cell? ⟨g, 1, none⟩ = some (.slice A1 n1 c1) ∧ W.cell? ⟨g, 2, none⟩ = some (.slice A2 n2 c2) ∧ W.cell? ⟨g + 1, 0, none⟩ = some (.int .i64 t') ∧ W.cell? ⟨g + 1, 1, none⟩ = some (.slice B1 m1 e1) ∧ W.cell? ⟨g + 1, 2, none⟩ = some (.slice B2 m2 e2) ∧ W.cell? ⟨g + 2, 0, none⟩ = some (.func (.func 135) #[] #[]) ∧ CmpW w g n T U t A1 n1 c1 A2 n2 c2 t' B1 m1 e1 B2 m2 e2 W) : (W.alloc (.cells #[.int .i64 0] 3)).heap[W.heap.size]? = some (.cells #[.int .i64 0] 3 (0, 0)) ∧ g + 3 ≤ W.heap.size := ⟨alloc_at rfl, by have := (Array.getElem?_eq_some_iff.1 (cmpW h).f).1; omega⟩

theorem qKeep {W W' : World} {q g : Nat} {x : Int} (h : W.heap[q]? = some (.cells #[.int .i64 x] 3 (0, 0)) ∧ g + 3 ≤ q) (hb : Below W.heap.size W W') : W'.heap[q]? = some (.cells #[.int .i64 x] 3 (0, 0)) ∧ g + 3 ≤ q := ⟨(hb.block _ (Array.getElem?_eq_some_iff.1 h.1).1).trans h.1, h.2⟩

theorem qCell {W : World} {q g : Nat} {x : Int} (h : W.heap[q]? = some (.cells #[.int .i64 x] 3 (0, 0)) ∧ g + 3 ≤ q) : W.cell? ⟨q, 0, none⟩ = some (.int .i64 x) := cell_of_row _ _ 0 _ _ (0, 0) h.1

theorem qFr {W : World} {q g : Nat} {x : Int} (h : W.heap[q]? = some (.cells #[.int .i64 x] 3 (0, 0)) ∧ g + 3 ≤ q) : W.frozen? ⟨q, 0, none⟩ = false := fr_of h.1

theorem qLt {W : World} {q g : Nat} {x : Int} (h : W.heap[q]? = some (.cells #[.int .i64 x] 3 (0, 0)) ∧ g + 3 ≤ q) : q < W.heap.size := (Array.getElem?_eq_some_iff.1 h.1).1

theorem qSet {W : World} {q g : Nat} {y x : Int} (h : W.heap[q]? = some (.cells #[.int .i64 y] 3 (0, 0)) ∧ g + 3 ≤ q) : (W.setCell ⟨q, 0, none⟩ (.int .i64 x)).cell? ⟨q, 0, none⟩ = some (.int .i64 x) := World.cell?_setCell_same _ _ _ (qCell h)

theorem cmpSet {w W : World} {g n q : Nat} {T U : Tree} {t t' x : Int} {A1 A2 B1 B2 : Option Addr} {n1 c1 n2 c2 m1 e1 m2 e2 : Nat} (h : W.cell? ⟨g, 0, none⟩ = some (.int .i64 t) ∧ W.cell? ⟨g, 1, none⟩ = some (.slice A1 n1 c1) ∧ W.cell? ⟨g, 2, none⟩ = some (.slice A2 n2 c2) ∧ W.cell? ⟨g + 1, 0, none⟩ = some (.int .i64 t') ∧ W.cell? ⟨g + 1, 1, none⟩ = some (.slice B1 m1 e1) ∧ W.cell? ⟨g + 1, 2, none⟩ = some (.slice B2 m2 e2) ∧ W.cell? ⟨g + 2, 0, none⟩ = some (.func (.func 135) #[] #[]) ∧ CmpW w g n T U t A1 n1 c1 A2 n2 c2 t' B1 m1 e1 B2 m2 e2 W) (hq : g + 3 ≤ q) : (W.setCell ⟨q, 0, none⟩ (.int .i64 x)).cell? ⟨g, 0, none⟩ = some (.int .i64 t) ∧ (W.setCell ⟨q, 0, none⟩ (.int .i64 x)).cell? ⟨g, 1, none⟩ = some (.slice A1 n1 c1) ∧ (W.setCell ⟨q, 0, none⟩ (.int .i64 x)).cell? ⟨g, 2, none⟩ = some (.slice A2 n2 c2) ∧ (W.setCell ⟨q, 0, none⟩ (.int .i64 x)).cell? ⟨g + 1, 0, none⟩ = some (.int .i64 t') ∧ (W.setCell ⟨q, 0, none⟩ (.int .i64 x)).cell? ⟨g + 1, 1, none⟩ = some (.slice B1 m1 e1) ∧ (W.setCell ⟨q, 0, none⟩ (.int .i64 x)).cell? ⟨g + 1, 2, none⟩ = some (.slice B2 m2 e2) ∧ (W.setCell ⟨q, 0, none⟩ (.int .i64 x)).cell? ⟨g + 2, 0, none⟩ = some (.func (.func 135) #[] #[]) ∧ CmpW w g n T U t A1 n1 c1 A2 n2 c2 t' B1 m1 e1 B2 m2 e2 (W.setCell ⟨q, 0, none⟩ (.int .i64 x)) := by
  have c := cmpW h
  have far : ∀ j, j ≠ q → (W.setCell ⟨q, 0, none⟩ (.int .i64 x)).heap[j]? = W.heap[j]? := fun j hj => Below.heap_setCell _ _ _ j hj
  exact CmpW.cs ⟨(far g (by omega)).trans c.a, (far (g + 1) (by omega)).trans c.b, (far (g + 2) (by omega)).trans c.f, c.tt.keep (fun k _ hk => far k (by omega)), c.uu.keep (fun k _ hk => far k (by omega)), bset c.bel (p := ⟨q, 0, none⟩) (by have := c.glt; show w.heap.size ≤ q; omega) _, c.glt⟩

theorem enters_c1 : ∀ args w, (callFunc 151 args).run Tryz.prog w = .ok (.enter 151 args) w := enters_of Tryz.func151 (by kernel_rfl) rfl

theorem cmp_closure {w Z : World} {g q u : Nat} (n : Nat) {T U : Tree} {t t' : Int} {A1 A2 B1 B2 : Option Addr} {n1 c1 n2 c2 m1 e1 m2 e2 : Nat} (hu : u < 1024) (himp : ∀ s, s < 1024 → satB 3 T ((s : Nat) : Int) = true → satB 3 U (s : Int) = true) (h : CmpW w g n T U t A1 n1 c1 A2 n2 c2 t' B1 m1 e1 B2 m2 e2 Z) (hq : Z.cell? ⟨q, 0, none⟩ = some (.int .i64 (u : Int))) :
    ∀ s : Nat, s < 1024 → ∀ W, Below Z.heap.size Z W → Calls Tryz.prog 151 #[.int .i64 (s : Int), .pointer (some ⟨q, 0, none⟩), .pointer (some ⟨g + 2, 0, none⟩), .pointer (some ⟨g, 0, none⟩), .pointer (some ⟨g + 1, 0, none⟩)] W fun e W' => e = .returned (.bool false) ∧ Below W.heap.size W W' := fun s hs W hb => by
  obtain ⟨x0, x1, x2, y0, y1, y2, z0, c⟩ := (h.below hb).cs
  exact cmp1_run 3 T U t t' A1 A2 B1 B2 n1 c1 n2 c2 m1 e1 m2 e2 q (g + 2) g (g + 1) u s W hs hu (himp s hs) ⟨(hb.cell (cell_lt hq)).trans hq, z0, x0, x1, x2, y0, y1, y2, c.tt.imp (fun _ _ _ => trivial), c.uu.imp (fun _ _ _ => trivial), bref _⟩

set_option maxRecDepth 100000 in
set_option maxHeartbeats 8000000 in
theorem scompare_run (P Q : Nat → Prop) (n : Nat) (hn : n ≤ 10) (T U : Tree) (v0 v1 v2 u0 u1 u2 : Value) (w : World) (h : TAt P 3 w v0 v1 v2 T) (h' : TAt Q 3 w u0 u1 u2 U) (hW : WF n 3 T) (hW' : WF n 3 U) (himp : ∀ s, s < 1024 → satB 3 T ((s : Nat) : Int) = true → satB 3 U (s : Int) = true) :
    Calls Tryz.prog 134 #[.agg #[v0, v1, v2], .agg #[u0, u1, u2], .func (.func 135) #[] #[]] w fun e w' => e = .returned (.tuple #[.bool true, .int .i64 0, .int .i64 0]) ∧ Below w.heap.size w w' := by
  obtain ⟨t, A1, n1, c1, A2, n2, c2, rfl, rfl, rfl⟩ := h.form
  obtain ⟨t', B1, m1, e1, B2, m2, e2, rfl, rfl, rfl⟩ := h'.form
  have hb3 : Below w.heap.size w (((w.alloc (.cells #[.int .i64 t, .slice A1 n1 c1, .slice A2 n2 c2] 73)).alloc (.cells #[.int .i64 t', .slice B1 m1 e1, .slice B2 m2 e2] 73)).alloc (.cells #[.func (.func 135) #[] #[]] 130)) := balloc (balloc (balloc (bref w) _) _) _
  have HC := Lib.hid (show CmpW w w.heap.size n T U t A1 n1 c1 A2 n2 c2 t' B1 m1 e1 B2 m2 e2 (((w.alloc (.cells #[.int .i64 t, .slice A1 n1 c1, .slice A2 n2 c2] 73)).alloc (.cells #[.int .i64 t', .slice B1 m1 e1, .slice B2 m2 e2] 73)).alloc (.cells #[.func (.func 135) #[] #[]] 130)) from
    ⟨alloc_on (alloc_on (alloc_at rfl)), alloc_on (alloc_at (alloc_sz _ _)), alloc_at (by rw [alloc_sz, alloc_sz]), (h.imp (fun _ hk _ => hk)).below hb3, (h'.imp (fun _ hk _ => hk)).below hb3, hb3, rfl⟩)
  have HW := Lib.hid hW
  have HW' := Lib.hid hW'
  have HI := Lib.hid himp
  clear h h' hb3 hW hW' himp
  go_enter Tryz.func134, Tryz.ntmps134
  go_upto_region 1 with fail
  generalize (((w.alloc (.cells #[.int .i64 t, .slice A1 n1 c1, .slice A2 n2 c2] 73)).alloc (.cells #[.int .i64 t', .slice B1 m1 e1, .slice B2 m2 e2] 73)).alloc (.cells #[.func (.func 135) #[] #[]] 130)) = W1 at *
  generalize hg : w.heap.size = g at *
  have HG := Lib.hid hg
  clear hg
  obtain ⟨x0, x1, x2, y0, y1, y2, z0, _⟩ := HC.out.cs
  obtain ⟨r, hr⟩ : ∃ r, W1.heap.size = r := ⟨_, rfl⟩
  have HBX := Lib.hid (balloc (bref W1) (.cells #[.int .i64 t, .slice A1 n1 c1, .slice A2 n2 c2, .int .i64 t', .slice B1 m1 e1, .slice B2 m2 e2] 73))
  have HR := Lib.hid (show (W1.alloc (.cells #[.int .i64 t, .slice A1 n1 c1, .slice A2 n2 c2, .int .i64 t', .slice B1 m1 e1, .slice B2 m2 e2] 73)).heap[r]? = some (.cells #[.int .i64 t, .slice A1 n1 c1, .slice A2 n2 c2, .int .i64 t', .slice B1 m1 e1, .slice B2 m2 e2] 73 (0, 0)) from alloc_at hr)
  have HC2 := Lib.hid (HC.out.below HBX.out)
  go_upto_region 2 with fail
  generalize (W1.alloc (.cells #[.int .i64 t, .slice A1 n1 c1, .slice A2 n2 c2, .int .i64 t', .slice B1 m1 e1, .slice B2 m2 e2] 73)) = W2 at *
  clear x0 x1 x2 y0 y1 y2 z0 hr HBX HC
  go_loopw [19] (fun u W => ∃ k : Nat, k ≤ 2 ∧ u = .int .i64 k ∧ Hid (Below W2.heap.size W2 W)) (fun u _ => 2 - (intOf u).toNat)
  case atStart => exact ⟨0, by omega, rfl, Lib.hid (bref _)⟩
  case round =>
    obtain ⟨k, hk, rfl, hB⟩ := hrel
    have HCk := Lib.hid (HC2.out.below hB.out)
    have HRk := Lib.hid ((hB.out.block _ (Array.getElem?_eq_some_iff.1 HR.out).1).trans HR.out)
    by_cases hlt : k < 2
    · have hk01 : k = 0 ∨ k = 1 := by omega
      rcases hk01 with rfl | rfl
      · have d0 : wr.cell? ⟨r, 0, none⟩ = some (.int .i64 t) := cell_of_row _ _ 0 _ _ (0, 0) HRk.out
        have d1 : wr.cell? ⟨r, 1, none⟩ = some (.slice A1 n1 c1) := cell_of_row _ _ 1 _ _ (0, 0) HRk.out
        have d2 : wr.cell? ⟨r, 2, none⟩ = some (.slice A2 n2 c2) := cell_of_row _ _ 2 _ _ (0, 0) HRk.out
        have HB2 := Lib.hid (balloc hB.out (.cells #[.int .i64 t, .slice A1 n1 c1, .slice A2 n2 c2] 73))
        have HT := Lib.hid (HCk.out.tt.below (balloc (bref wr) (.cells #[.int .i64 t, .slice A1 n1 c1, .slice A2 n2 c2] 73)))
        go_wp2_with fail
        refine (pvalid_run n (by omega) 3 (by omega) _ T _ _ _ _ HT.out HW.out (D3.sizeT3_le HW.out)).mono ?_
        rintro e w5 ⟨rfl, hb5⟩
        have HB5 := Lib.hid (bstep HB2.out hb5)
        clear hb5
        go_wp2_with fail
        go_roundw
        case rel => exact ⟨1, by omega, by go_num, HB5⟩
        case measure => simp [intOf]
      · have d0 : wr.cell? ⟨r, 3, none⟩ = some (.int .i64 t') := cell_of_row _ _ 3 _ _ (0, 0) HRk.out
        have d1 : wr.cell? ⟨r, 4, none⟩ = some (.slice B1 m1 e1) := cell_of_row _ _ 4 _ _ (0, 0) HRk.out
        have d2 : wr.cell? ⟨r, 5, none⟩ = some (.slice B2 m2 e2) := cell_of_row _ _ 5 _ _ (0, 0) HRk.out
        have HB2 := Lib.hid (balloc hB.out (.cells #[.int .i64 t', .slice B1 m1 e1, .slice B2 m2 e2] 73))
        have HT := Lib.hid (HCk.out.uu.below (balloc (bref wr) (.cells #[.int .i64 t', .slice B1 m1 e1, .slice B2 m2 e2] 73)))
        go_wp2_with fail
        refine (pvalid_run n (by omega) 3 (by omega) _ U _ _ _ _ HT.out HW'.out (D3.sizeT3_le HW'.out)).mono ?_
        rintro e w5 ⟨rfl, hb5⟩
        have HB5 := Lib.hid (bstep HB2.out hb5)
        clear hb5
        go_wp2_with fail
        go_roundw
        case rel => exact ⟨2, by omega, by go_num, HB5⟩
        case measure => simp [intOf]
    · obtain rfl : k = 2 := by omega
      have hS6 := Lib.hid ((HCk.out.below (bdrew (bref wr))).cs)
      have hlT := usesT_lt 3 T
      have hlU := usesT_lt 3 U
      have hor := or_i64 _ _ hlT hlU
      obtain ⟨a, ha⟩ : ∃ a, usesT 3 T = a := ⟨_, rfl⟩
      obtain ⟨b, hb⟩ : ∃ b, usesT 3 U = b := ⟨_, rfl⟩
      have HA := Lib.hid ha
      have HBb := Lib.hid hb
      rw [ha, hb] at hor
      rw [ha] at hlT
      rw [hb] at hlU
      have HOL := Lib.hid (Nat.or_lt_two_pow (n := 10) hlT hlU)
      clear ha hb HRk HCk
      go_upto_region 8 with fail
      have hS := hS6.out
      have hSK := hS
      refine wp_region_noPanic ?_
      refine wp_region_held_drew (S := fun W => W.cell? ⟨g, 0, none⟩ = some (.int .i64 t) ∧ W.cell? ⟨g, 1, none⟩ = some (.slice A1 n1 c1) ∧ W.cell? ⟨g, 2, none⟩ = some (.slice A2 n2 c2) ∧ W.cell? ⟨g + 1, 0, none⟩ = some (.int .i64 t') ∧ W.cell? ⟨g + 1, 1, none⟩ = some (.slice B1 m1 e1) ∧ W.cell? ⟨g + 1, 2, none⟩ = some (.slice B2 m2 e2) ∧ W.cell? ⟨g + 2, 0, none⟩ = some (.func (.func 135) #[] #[]) ∧ CmpW w g n T U t A1 n1 c1 A2 n2 c2 t' B1 m1 e1 B2 m2 e2 W) (by kernel_rfl) hS (fun hHeld => ?_)
      clear hS hS6
      generalize wr.drew = W0 at *
      refine take_d (some 29) (i := 0) (v := ?_) rfl rfl (by kernel_rfl) (by kernel_rfl) (by kernel_rfl) (fun _ _ _ h => h) (Or.inl ⟨by rfl, ?_⟩) (by assumption) ?_
      rotate_left
      · intro w hSw; (try dsimp only at hSw); go_simp; (try with_reducible rfl)
      try simp only [Act.put, List.setIfInBounds_toArray, List.set_cons_zero, List.set_cons_succ]
      refine take_d (some 31) (i := 2) (v := ?_) rfl rfl (by kernel_rfl) (by kernel_rfl) (by kernel_rfl) (fun _ _ _ h => h) (Or.inl ⟨by rfl, ?_⟩) (by assumption) ?_
      rotate_left
      · intro w hSw; (try dsimp only at hSw); go_simp; (try with_reducible rfl)
      try simp only [Act.put, List.setIfInBounds_toArray, List.set_cons_zero, List.set_cons_succ]
      refine wpAnyH_ready (rs := [1, 5]) (by kernel_rfl) (by simp) ?_
      refine AllReadyH.cons rfl (fun K hK => ?_) (AllReadyH.cons rfl (fun K hK => ?_) (AllReadyH.nil))
      · go_simp
        refine (puses_run (fun b => b < g) 3 T _ _ _ _ (cmpW hSK).tt).mono ?_
        rintro e3 WK ⟨rfl, hbK⟩
        have hSN := cmpKeep hSK hbK
        (try have HQ := Lib.hid (qKeep HQ.out hbK))
        clear hbK
        rw [HA.out]
        go_wp2_with fail
        refine hK.out _ _ ?_ (fun hHeld => ?_)
        · exact hSN
        clear hK K hSK
        have hSK := hHeld
        clear hHeld
        try simp only [Act.put, List.setIfInBounds_toArray, List.set_cons_zero, List.set_cons_succ]
        refine wpAnyH_ready (rs := [3, 5]) (by kernel_rfl) (by simp) ?_
        refine AllReadyH.cons rfl (fun K hK => ?_) (AllReadyH.cons rfl (fun K hK => ?_) (AllReadyH.nil))
        · go_simp
          refine (puses_run (fun b => b < g) 3 U _ _ _ _ (cmpW hSK).uu).mono ?_
          rintro e3 WL ⟨rfl, hbK⟩
          have hSN := cmpKeep hSK hbK
          (try have HQ := Lib.hid (qKeep HQ.out hbK))
          clear hbK
          rw [HBb.out]
          go_wp2_with fail
          refine hK.out _ _ ?_ (fun hHeld => ?_)
          · exact hSN
          clear hK K hSK
          have hSK := hHeld
          clear hHeld
          try simp only [Act.put, List.setIfInBounds_toArray, List.set_cons_zero, List.set_cons_succ]
          refine take_d (some 33) (i := 4) (v := ?_) rfl rfl (by kernel_rfl) (by kernel_rfl) (by kernel_rfl) (fun _ _ _ h => h) (Or.inl ⟨by rfl, ?_⟩) (by assumption) ?_
          rotate_left
          · intro w hSw; (try dsimp only at hSw); go_simp; (try with_reducible rfl)
          try simp only [Act.put, List.setIfInBounds_toArray, List.set_cons_zero, List.set_cons_succ]
          refine wpAnyH_ready (rs := [5]) (by kernel_rfl) (by simp) ?_
          refine AllReadyH.cons rfl (fun K hK => ?_) (AllReadyH.nil)
          have hSN := cmpKeep hSK (balloc (bref _) (.cells #[.int .i64 0] 3))
          have HQ := Lib.hid (qAlloc hSK)
          go_simp
          generalize (World.alloc WL (.cells #[.int .i64 0] 3)) = WA at *
          refine hK.out _ _ ?_ (fun hHeld => ?_)
          · exact hSN
          clear hK K hSK
          have hSK := hHeld
          clear hHeld
          try simp only [Act.put, List.setIfInBounds_toArray, List.set_cons_zero, List.set_cons_succ]
          refine wpAnyH_ready (rs := [6]) (by kernel_rfl) (by simp) ?_
          refine AllReadyH.cons rfl (fun K hK => ?_) (AllReadyH.nil)
          have zc := qCell HQ.out
          have zf := qFr HQ.out
          have zl := qLt HQ.out
          have HSN := Lib.hid (cmpSet (x := ((a ||| b : Nat) : Int)) hSK HQ.out.2)
          have HU := Lib.hid (qSet (x := ((a ||| b : Nat) : Int)) HQ.out)
          go_simp
          clear zc zf zl
          refine hK.out _ _ ?_ (fun hHeld => ?_)
          · exact HSN.out
          clear hK K hSK
          have hSK := hHeld
          clear hHeld
          try simp only [Act.put, List.setIfInBounds_toArray, List.set_cons_zero, List.set_cons_succ]
          refine wpAnyH_done (by kernel_rfl) ?_ _
          refine NoPanic.normal ?_
          have HCL := Lib.hid (cmp_closure n HOL.out HI.out (cmpW hSK) HU.out)
          have HBZ := Lib.hid (cmpW hSK).bel
          clear hSK
          go_wp2_with fail
          refine (first_none _ _ _ _ _ enters_c1 HCL.out).mono ?_
          rintro e3 WF ⟨rfl, hbF⟩
          have HBF := Lib.hid (bstep HBZ.out hbF)
          clear hbF
          go_wp2_with fail
          go_ret3
          exact ⟨rfl, HBF.out⟩
        · have hSN := cmpKeep hSK (balloc (bref _) (.cells #[.int .i64 0] 3))
          have HQ := Lib.hid (qAlloc hSK)
          go_simp
          generalize (World.alloc WK (.cells #[.int .i64 0] 3)) = WA at *
          refine hK.out _ _ ?_ (fun hHeld => ?_)
          · exact hSN
          clear hK K hSK
          have hSK := hHeld
          clear hHeld
          try simp only [Act.put, List.setIfInBounds_toArray, List.set_cons_zero, List.set_cons_succ]
          refine wpAnyH_ready (rs := [3]) (by kernel_rfl) (by simp) ?_
          refine AllReadyH.cons rfl (fun K hK => ?_) (AllReadyH.nil)
          go_simp
          refine (puses_run (fun b => b < g) 3 U _ _ _ _ (cmpW hSK).uu).mono ?_
          rintro e3 WL ⟨rfl, hbK⟩
          have hSN := cmpKeep hSK hbK
          (try have HQ := Lib.hid (qKeep HQ.out hbK))
          clear hbK
          rw [HBb.out]
          go_wp2_with fail
          refine hK.out _ _ ?_ (fun hHeld => ?_)
          · exact hSN
          clear hK K hSK
          have hSK := hHeld
          clear hHeld
          try simp only [Act.put, List.setIfInBounds_toArray, List.set_cons_zero, List.set_cons_succ]
          refine take_d (some 33) (i := 4) (v := ?_) rfl rfl (by kernel_rfl) (by kernel_rfl) (by kernel_rfl) (fun _ _ _ h => h) (Or.inl ⟨by rfl, ?_⟩) (by assumption) ?_
          rotate_left
          · intro w hSw; (try dsimp only at hSw); go_simp; (try with_reducible rfl)
          try simp only [Act.put, List.setIfInBounds_toArray, List.set_cons_zero, List.set_cons_succ]
          refine wpAnyH_ready (rs := [6]) (by kernel_rfl) (by simp) ?_
          refine AllReadyH.cons rfl (fun K hK => ?_) (AllReadyH.nil)
          have zc := qCell HQ.out
          have zf := qFr HQ.out
          have zl := qLt HQ.out
          have HSN := Lib.hid (cmpSet (x := ((a ||| b : Nat) : Int)) hSK HQ.out.2)
          have HU := Lib.hid (qSet (x := ((a ||| b : Nat) : Int)) HQ.out)
          go_simp
          clear zc zf zl
          refine hK.out _ _ ?_ (fun hHeld => ?_)
          · exact HSN.out
          clear hK K hSK
          have hSK := hHeld
          clear hHeld
          try simp only [Act.put, List.setIfInBounds_toArray, List.set_cons_zero, List.set_cons_succ]
          refine wpAnyH_done (by kernel_rfl) ?_ _
          refine NoPanic.normal ?_
          have HCL := Lib.hid (cmp_closure n HOL.out HI.out (cmpW hSK) HU.out)
          have HBZ := Lib.hid (cmpW hSK).bel
          clear hSK
          go_wp2_with fail
          refine (first_none _ _ _ _ _ enters_c1 HCL.out).mono ?_
          rintro e3 WF ⟨rfl, hbF⟩
          have HBF := Lib.hid (bstep HBZ.out hbF)
          clear hbF
          go_wp2_with fail
          go_ret3
          exact ⟨rfl, HBF.out⟩
      · have hSN := cmpKeep hSK (balloc (bref _) (.cells #[.int .i64 0] 3))
        have HQ := Lib.hid (qAlloc hSK)
        go_simp
        generalize (World.alloc W0 (.cells #[.int .i64 0] 3)) = WA at *
        refine hK.out _ _ ?_ (fun hHeld => ?_)
        · exact hSN
        clear hK K hSK
        have hSK := hHeld
        clear hHeld
        try simp only [Act.put, List.setIfInBounds_toArray, List.set_cons_zero, List.set_cons_succ]
        refine wpAnyH_ready (rs := [1]) (by kernel_rfl) (by simp) ?_
        refine AllReadyH.cons rfl (fun K hK => ?_) (AllReadyH.nil)
        go_simp
        refine (puses_run (fun b => b < g) 3 T _ _ _ _ (cmpW hSK).tt).mono ?_
        rintro e3 WK ⟨rfl, hbK⟩
        have hSN := cmpKeep hSK hbK
        (try have HQ := Lib.hid (qKeep HQ.out hbK))
        clear hbK
        rw [HA.out]
        go_wp2_with fail
        refine hK.out _ _ ?_ (fun hHeld => ?_)
        · exact hSN
        clear hK K hSK
        have hSK := hHeld
        clear hHeld
        try simp only [Act.put, List.setIfInBounds_toArray, List.set_cons_zero, List.set_cons_succ]
        refine wpAnyH_ready (rs := [3]) (by kernel_rfl) (by simp) ?_
        refine AllReadyH.cons rfl (fun K hK => ?_) (AllReadyH.nil)
        go_simp
        refine (puses_run (fun b => b < g) 3 U _ _ _ _ (cmpW hSK).uu).mono ?_
        rintro e3 WL ⟨rfl, hbK⟩
        have hSN := cmpKeep hSK hbK
        (try have HQ := Lib.hid (qKeep HQ.out hbK))
        clear hbK
        rw [HBb.out]
        go_wp2_with fail
        refine hK.out _ _ ?_ (fun hHeld => ?_)
        · exact hSN
        clear hK K hSK
        have hSK := hHeld
        clear hHeld
        try simp only [Act.put, List.setIfInBounds_toArray, List.set_cons_zero, List.set_cons_succ]
        refine take_d (some 33) (i := 4) (v := ?_) rfl rfl (by kernel_rfl) (by kernel_rfl) (by kernel_rfl) (fun _ _ _ h => h) (Or.inl ⟨by rfl, ?_⟩) (by assumption) ?_
        rotate_left
        · intro w hSw; (try dsimp only at hSw); go_simp; (try with_reducible rfl)
        try simp only [Act.put, List.setIfInBounds_toArray, List.set_cons_zero, List.set_cons_succ]
        refine wpAnyH_ready (rs := [6]) (by kernel_rfl) (by simp) ?_
        refine AllReadyH.cons rfl (fun K hK => ?_) (AllReadyH.nil)
        have zc := qCell HQ.out
        have zf := qFr HQ.out
        have zl := qLt HQ.out
        have HSN := Lib.hid (cmpSet (x := ((a ||| b : Nat) : Int)) hSK HQ.out.2)
        have HU := Lib.hid (qSet (x := ((a ||| b : Nat) : Int)) HQ.out)
        go_simp
        clear zc zf zl
        refine hK.out _ _ ?_ (fun hHeld => ?_)
        · exact HSN.out
        clear hK K hSK
        have hSK := hHeld
        clear hHeld
        try simp only [Act.put, List.setIfInBounds_toArray, List.set_cons_zero, List.set_cons_succ]
        refine wpAnyH_done (by kernel_rfl) ?_ _
        refine NoPanic.normal ?_
        have HCL := Lib.hid (cmp_closure n HOL.out HI.out (cmpW hSK) HU.out)
        have HBZ := Lib.hid (cmpW hSK).bel
        clear hSK
        go_wp2_with fail
        refine (first_none _ _ _ _ _ enters_c1 HCL.out).mono ?_
        rintro e3 WF ⟨rfl, hbF⟩
        have HBF := Lib.hid (bstep HBZ.out hbF)
        clear hbF
        go_wp2_with fail
        go_ret3
        exact ⟨rfl, HBF.out⟩

set_option maxRecDepth 100000 in
set_option maxHeartbeats 2000000 in
/-- slices.Implies, where it is so. -/
theorem implies_run (P Q : Nat → Prop) (n : Nat) (hn : n ≤ 10) (T U : Tree) (v0 v1 v2 u0 u1 u2 : Value) (w : World) (h : TAt P 3 w v0 v1 v2 T) (h' : TAt Q 3 w u0 u1 u2 U) (hW : WF n 3 T) (hW' : WF n 3 U) (himp : ∀ s, s < 1024 → satB 3 T ((s : Nat) : Int) = true → satB 3 U (s : Int) = true) :
    Calls Tryz.prog 113 #[.agg #[v0, v1, v2], .agg #[u0, u1, u2]] w fun e w' => e = .returned (.tuple #[.bool true, .int .i64 0, .int .i64 0]) ∧ Below w.heap.size w w' := by
  obtain ⟨t, A1, n1, c1, A2, n2, c2, rfl, rfl, rfl⟩ := h.form
  obtain ⟨t', B1, m1, e1, B2, m2, e2, rfl, rfl, rfl⟩ := h'.form
  have hb2 : Below w.heap.size w ((w.alloc (.cells #[.int .i64 t, .slice A1 n1 c1, .slice A2 n2 c2] 73)).alloc (.cells #[.int .i64 t', .slice B1 m1 e1, .slice B2 m2 e2] 73)) := balloc (balloc (bref w) _) _
  have HC := Lib.hid (fun W hb => scompare_run (fun _ => True) (fun _ => True) n hn T U (.int .i64 t) (.slice A1 n1 c1) (.slice A2 n2 c2) (.int .i64 t') (.slice B1 m1 e1) (.slice B2 m2 e2) W ((h.imp (fun _ _ _ => trivial)).below (w' := W) hb) ((h'.imp (fun _ _ _ => trivial)).below (w' := W) hb) hW hW' himp)
  have HB := Lib.hid hb2
  clear h h' hW hW' himp hb2
  go_enter Tryz.func113, Tryz.ntmps113
  go_wp2_with fail
  refine (HC.out _ HB.out).mono ?_
  rintro e3 WF ⟨rfl, hbF⟩
  have HBF := Lib.hid (bstep HB.out hbF)
  clear hbF
  go_wp2_with fail
  go_ret3
  exact ⟨rfl, HBF.out⟩

end Go.Proofs.YtacpfcckilnbfaaGreat

namespace Go.Proofs.YtacpfcckilnbfaaGreat
set_option linter.unusedVariables false
set_option linter.unusedSimpArgs false
open Go.RowKit

end Go.Proofs.YtacpfcckilnbfaaGreat

namespace Go.Proofs.YtacpfcckilnbfaaGreat
set_option linter.unusedVariables false
set_option linter.unusedSimpArgs false
open Go.RowKit

/-- Two configurations in boxes. -/
structure PA (P Q : Nat → Prop) (w0 : World) (g : Nat) (vl vh : Value) (ls hs : List Mem) (W : World) : Prop where
  l : W.heap[g]? = some (.cells #[vl] 27 (0, 0))
  h : W.heap[g + 1]? = some (.cells #[vh] 27 (0, 0))
  ml : MemsAt P 3 W vl ls
  mh : MemsAt Q 3 W vh hs
  bel : Below w0.heap.size w0 W

theorem PA.to {P Q : Nat → Prop} {w0 W W' : World} {g : Nat} {vl vh : Value} {ls hs : List Mem} (h : PA P Q w0 g vl vh ls hs W) (hb : Below W.heap.size W W') : PA P Q w0 g vl vh ls hs W' :=
  ⟨(hb.block _ (Array.getElem?_eq_some_iff.1 h.l).1).trans h.l, (hb.block _ (Array.getElem?_eq_some_iff.1 h.h).1).trans h.h, h.ml.below hb, h.mh.below hb, bstep h.bel hb⟩

theorem PA.cs {P Q : Nat → Prop} {w0 W : World} {g : Nat} {vl vh : Value} {ls hs : List Mem} (h : PA P Q w0 g vl vh ls hs W) : W.cell? ⟨g, 0, none⟩ = some vl ∧ W.cell? ⟨g + 1, 0, none⟩ = some vh ∧ PA P Q w0 g vl vh ls hs W :=
  ⟨cell_of_row _ _ 0 _ _ (0, 0) h.l, cell_of_row _ _ 0 _ _ (0, 0) h.h, h⟩

theorem paKeep {P Q : Nat → Prop} {w0 W W' : World} {g : Nat} {vl vh : Value} {ls hs : List Mem} (h : W.cell? ⟨g, 0, none⟩ = some vl ∧ W.cell? ⟨g + 1, 0, none⟩ = some vh ∧ PA P Q w0 g vl vh ls hs W) (hb : Below W.heap.size W W') : W'.cell? ⟨g, 0, none⟩ = some vl ∧ W'.cell? ⟨g + 1, 0, none⟩ = some vh ∧ PA P Q w0 g vl vh ls hs W' := (h.2.2.to hb).cs

theorem paSelf {P Q : Nat → Prop} {w0 W : World} {g : Nat} {vl vh : Value} {ls hs : List Mem} (h : W.cell? ⟨g, 0, none⟩ = some vl ∧ W.cell? ⟨g + 1, 0, none⟩ = some vh ∧ PA P Q w0 g vl vh ls hs W) : PA P Q w0 g vl vh ls hs W := h.2.2

theorem PA.new {P Q : Nat → Prop} {w : World} {vl vh : Value} {ls hs : List Mem} (h1 : MemsAt P 3 w vl ls) (h2 : MemsAt Q 3 w vh hs) : PA P Q w w.heap.size vl vh ls hs ((w.alloc (.cells #[vl] 27)).alloc (.cells #[vh] 27)) :=
  ⟨alloc_on (alloc_at rfl), alloc_at (alloc_sz _ _), h1.below (balloc (balloc (bref w) _) _), h2.below (balloc (balloc (bref w) _) _), balloc (balloc (bref w) _) _⟩

/-- The trusts of a declared member, and the boxes. -/
def SV (P Q : Nat → Prop) (w0 : World) (g b off b' off' k n c d : Nat) (t t' : Int) (u1 u2 y1 y2 : Value) (T U : Tree) (ls hs : List Mem) (W : World) : Prop :=
  W.cell? ⟨g, 0, none⟩ = some (.slice (some ⟨b, off, none⟩) n c) ∧ W.cell? ⟨g + 1, 0, none⟩ = some (.slice (some ⟨b', off', none⟩) n d) ∧ W.cell? ⟨b, off + k * 4 + 1, none⟩ = some (.int .i64 t) ∧ W.cell? ⟨b, off + k * 4 + 2, none⟩ = some u1 ∧ W.cell? ⟨b, off + k * 4 + 3, none⟩ = some u2 ∧ W.cell? ⟨b', off' + k * 4 + 1, none⟩ = some (.int .i64 t') ∧ W.cell? ⟨b', off' + k * 4 + 2, none⟩ = some y1 ∧ W.cell? ⟨b', off' + k * 4 + 3, none⟩ = some y2 ∧
    (PA P Q w0 g (.slice (some ⟨b, off, none⟩) n c) (.slice (some ⟨b', off', none⟩) n d) ls hs W ∧ TAt P 3 W (.int .i64 t) u1 u2 T ∧ TAt Q 3 W (.int .i64 t') y1 y2 U)

theorem SV.keep {P Q : Nat → Prop} {w0 W W' : World} {g b off b' off' k n c d : Nat} {t t' : Int} {u1 u2 y1 y2 : Value} {T U : Tree} {ls hs : List Mem} (h : SV P Q w0 g b off b' off' k n c d t t' u1 u2 y1 y2 T U ls hs W) (hb : Below W.heap.size W W') : SV P Q w0 g b off b' off' k n c d t t' u1 u2 y1 y2 T U ls hs W' := by
  obtain ⟨e0, e1, e2, e3, e4, e5, e6, e7, h1, h2, h3⟩ := h
  exact ⟨(hb.cell (cell_lt e0)).trans e0, (hb.cell (cell_lt e1)).trans e1, (hb.cell (cell_lt e2)).trans e2, (hb.cell (cell_lt e3)).trans e3, (hb.cell (cell_lt e4)).trans e4, (hb.cell (cell_lt e5)).trans e5, (hb.cell (cell_lt e6)).trans e6, (hb.cell (cell_lt e7)).trans e7, h1.to hb, h2.below hb, h3.below hb⟩

theorem svL {P Q : Nat → Prop} {w0 W : World} {g b off b' off' k n c d : Nat} {t t' : Int} {u1 u2 y1 y2 : Value} {T U : Tree} {ls hs : List Mem} (h : SV P Q w0 g b off b' off' k n c d t t' u1 u2 y1 y2 T U ls hs W) : PA P Q w0 g (.slice (some ⟨b, off, none⟩) n c) (.slice (some ⟨b', off', none⟩) n d) ls hs W ∧ TAt P 3 W (.int .i64 t) u1 u2 T ∧ TAt Q 3 W (.int .i64 t') y1 y2 U := h.2.2.2.2.2.2.2.2

theorem PairM.decl {ls hs : List Mem} (h : PairM ls hs) : declS hs hs.length = declS ls ls.length := by
  apply Nat.eq_of_testBit_eq
  intro k
  rw [declS_iff, declS_iff, h.len]
  rcases Nat.lt_or_ge k ls.length with hk | hk
  · have e1 := List.getElem?_eq_getElem hk
    have e2 := List.getElem?_eq_getElem (l := hs) (i := k) (by rw [h.len]; exact hk)
    rw [List.getD_eq_getElem?_getD, List.getD_eq_getElem?_getD, e1, e2]
    show (decide _ && (hs[k]'(by rw [h.len]; exact hk)).1) = (decide _ && (ls[k]).1)
    rw [h.dec k _ _ e1 e2]
  · rw [decide_eq_false (by omega)]; rfl

theorem PairM.sat {ls hs : List Mem} (hp : PairM ls hs) {k : Nat} {l h : Mem} (e1 : ls[k]? = some l) (e2 : hs[k]? = some h) (hd : l.1 = true) : ∀ s, s < 1024 → satB 3 h.2 ((s : Nat) : Int) = true → satB 3 l.2 (s : Int) = true := fun s hs h => by
  rw [sat_of hs] at h ⊢
  exact hp.imp k l _ e1 e2 hd _ h

theorem declS_memD {ms : List Mem} {k : Nat} (h : (declS ms ms.length).testBit k = true) : ∃ m, ms[k]? = some m ∧ m.1 = true := by
  have hk := declS_bit h
  rw [declS_iff, decide_eq_true hk, Bool.true_and, List.getD_eq_getElem?_getD, List.getElem?_eq_getElem hk] at h
  exact ⟨_, List.getElem?_eq_getElem hk, h⟩

set_option maxRecDepth 100000 in
set_option maxHeartbeats 4000000 in
theorem dpvalid_run (P Q : Nat → Prop) (ls hs : List Mem) (vl vh : Value) (w : World) (hl : ls.length ≤ 7) (h1 : MemsAt P 3 w vl ls) (h2 : MemsAt Q 3 w vh hs) (hp : PairM ls hs) :
    Calls Tryz.prog 86 #[.agg #[vl], .agg #[vh]] w fun e w' => e = .returned (.int .i64 0) ∧ Below w.heap.size w w' := by
  obtain ⟨A, c, rfl⟩ := h1.slice
  obtain ⟨B, d, rfl⟩ := h2.slice
  have hlen := hp.len
  have hokl := hp.okl
  have hokh := hp.okh
  have hdec := hp.decl
  have HDL := Lib.hid (fun W (h : MemsAt P 3 W (.slice A ls.length c) ls) => declared_run P 3 ls _ W (by omega) h)
  have HDH := Lib.hid (fun W (h : MemsAt Q 3 W (.slice B hs.length d) hs) => declared_run Q 3 hs _ W (by omega) h)
  rw [hdec] at HDH
  rw [hlen] at h2 HDH hokh ⊢
  obtain ⟨n, hn⟩ : ∃ n, ls.length = n := ⟨_, rfl⟩
  have HN := Lib.hid hn
  have HNH := Lib.hid hlen
  rw [hn] at HNH
  have HD := Lib.hid (fun k (h : (declS ls ls.length).testBit k = true) => declS_bit h)
  have HDM := Lib.hid (fun k (h : (declS ls ls.length).testBit k = true) => declS_memD h)
  have hDl : declS ls ls.length < 1024 := declS_lt ls _ (by omega)
  generalize declS ls ls.length = D at HDL HDH hDl HD HDM
  rw [hn] at h1 h2 HDL HDH hokl hokh hl HD ⊢
  have HP := Lib.hid hp
  have HOL := Lib.hid hokl
  have HOH := Lib.hid hokh
  have HPA := Lib.hid (PA.new h1 h2)
  clear h1 h2 hp hokl hokh hn hdec hlen
  go_enter Tryz.func86, Tryz.ntmps86
  go_upto_region 1 with fail
  generalize ((w.alloc (.cells #[.slice A n c] 27)).alloc (.cells #[.slice B n d] 27)) = W1 at *
  generalize w.heap.size = g at HPA ⊢
  have l0 := HPA.out.cs.1
  have h0 := HPA.out.cs.2.1
  have HAR := Lib.hid (show (W1.alloc (.cells #[.slice A n c, .slice B n d] 27)).heap[W1.heap.size]? = some (.cells #[.slice A n c, .slice B n d] 27 (0, 0)) from alloc_at rfl)
  have HPA2 := Lib.hid (HPA.out.to (balloc (bref W1) (.cells #[.slice A n c, .slice B n d] 27)))
  clear HPA
  go_wp2_with fail
  generalize (W1.alloc (.cells #[.slice A n c, .slice B n d] 27)) = W2 at *
  generalize W1.heap.size = a at *
  clear l0 h0
  go_loopw [17] (fun t W => ∃ k : Nat, k ≤ 2 ∧ t = .int .i64 (k : Int) ∧ Hid (Below W2.heap.size W2 W)) (fun t _ => 2 - (intOf t).toNat)
  case atStart => exact ⟨0, by omega, rfl, Lib.hid (bref _)⟩
  case round =>
    obtain ⟨k, hk, rfl, hBe⟩ := hrel
    have hrow := (hBe.out.block _ (Array.getElem?_eq_some_iff.1 HAR.out).1).trans HAR.out
    by_cases hk2 : k = 2
    · subst hk2
      have hpa := HPA2.out.to hBe.out
      have HPA3 := Lib.hid hpa
      have hS := Lib.hid (show wr.drew.cell? ⟨g, 0, none⟩ = some (.slice A n c) ∧ wr.drew.cell? ⟨g + 1, 0, none⟩ = some (.slice B n d) ∧ PA P Q w g (.slice A n c) (.slice B n d) ls hs wr.drew from (hpa.to (bdrew (bref _))).cs)
      clear hpa hrow HAR HPA2 hBe
      go_upto_region 8 with fail
      go_region_held3 (fun W => W.cell? ⟨g, 0, none⟩ = some (.slice A n c) ∧ W.cell? ⟨g + 1, 0, none⟩ = some (.slice B n d) ∧ PA P Q w g (.slice A n c) (.slice B n d) ls hs W) (first | exact hS.out | exact hSK | exact paKeep (by assumption) hbK | go_keep)
        (first
          | (go_at_call_of 100 (Value.agg #[.slice A n c]); refine (HDL.out _ (by exact (paSelf (by assumption)).ml)).mono ?_; rintro e WK ⟨rfl, hbK⟩; have hSK := paKeep (by assumption) hbK)
          | (go_at_call_of 100 (Value.agg #[.slice B n d]); refine (HDH.out _ (by exact (paSelf (by assumption)).mh)).mono ?_; rintro e WK ⟨rfl, hbK⟩; have hSK := paKeep (by assumption) hbK))
      all_goals
        have hpa := paSelf (vl := .slice A n c) (vh := .slice B n d) (by assumption)
        have HPA4 := Lib.hid hpa
        have l0 := hpa.cs.1
        clear hpa
        go_wp2_with fail
        refine (HDL.out _ HPA4.out.ml).mono ?_
        rintro e W5 ⟨rfl, hb5⟩
        have HPA5 := Lib.hid (HPA4.out.to hb5)
        clear hb5 l0
        go_wp2_with fail
        refine (pnodes_run D _ hDl).mono ?_
        rintro e W6 ⟨vn, rfl, hnv, hb6⟩
        have HPA6 := Lib.hid (HPA5.out.to hb6)
        obtain ⟨Nn, cn, rfl⟩ := hnv.slice
        obtain ⟨m, hm⟩ : ∃ m, (nodL D 10).length = m := ⟨_, rfl⟩
        have hm10 := nodL_len D 10
        rw [hm] at hnv hm10 ⊢
        have HNV := Lib.hid hnv
        have HM := Lib.hid hm
        clear hb6 hnv hm
        go_wp2_with fail
        go_loopw [49] (fun t W => ∃ k : Nat, k ≤ m ∧ t = .int .i64 (k : Int) ∧ Hid (Below W6.heap.size W6 W)) (fun t _ => m - (intOf t).toNat)
        case atStart => exact ⟨0, Nat.zero_le _, rfl, Lib.hid (bref _)⟩
        case round =>
          obtain ⟨k, hk, rfl, hBe⟩ := hrel
          by_cases hlt : k < m
          · obtain ⟨An, cn', hAn, hcl⟩ := HNV.out
            injection hAn with q1 q2 q3
            subst q1
            obtain ⟨bn, on, hbn, _, hcn⟩ := hcl k (by rw [HM.out]; exact hlt)
            subst hbn
            obtain ⟨j, hj, _, hjb⟩ := (nodL_mem D 10 ((nodL D 10).getD k 0)).1 (by rw [List.getD_eq_getElem?_getD, List.getElem?_eq_getElem (by rw [HM.out]; exact hlt)]; exact List.getElem_mem _)
            rw [hj] at hcn
            have hjn : j < n := HD.out j hjb
            obtain ⟨lm, hlm, hld⟩ := HDM.out j hjb
            obtain ⟨hm2, hhm⟩ : ∃ x, hs[j]? = some x := ⟨_, List.getElem?_eq_getElem (by rw [HNH.out]; exact hjn)⟩
            have hpa := HPA6.out.to hBe.out
            have hpac := hpa.cs
            obtain ⟨A', c', hA', hL⟩ := hpa.ml
            injection hA' with r1 r2 r3
            subst r1
            obtain ⟨b, off, u0, u1, u2, rfl, _, _, f1, f2, f3, hT⟩ := hL j lm hlm
            obtain ⟨B', d', hB', hH⟩ := hpa.mh
            injection hB' with s1 s2 s3
            subst s1
            obtain ⟨b', off', v0, v1, v2, rfl, _, _, k1, k2, k3, hU⟩ := hH j hm2 hhm
            obtain ⟨t, a1, n1, x1, a2, n2, x2, rfl, rfl, rfl⟩ := hT.form
            obtain ⟨t', b1, m1, z1, b2, m2, z2, rfl, rfl, rfl⟩ := hU.form
            have n0 : wr.cell? ⟨bn, on + k, none⟩ = some (.int .i64 (j : Int)) := (hBe.out.cell (cell_lt hcn)).trans hcn
            have HIM := Lib.hid (fun W (h1 : TAt P 3 W _ _ _ lm.2) (h2 : TAt Q 3 W _ _ _ hm2.2) => implies_run Q P n (by omega) hm2.2 lm.2 (.int .i64 t') (.slice b1 m1 z1) (.slice b2 m2 z2) (.int .i64 t) (.slice a1 n1 x1) (.slice a2 n2 x2) W h2 h1 ((HOH.out hm2 (List.mem_of_getElem? hhm)).1 (by rw [HP.out.dec j _ _ hlm hhm]; exact hld)) ((HOL.out lm (List.mem_of_getElem? hlm)).1 hld) (HP.out.sat hlm hhm hld))
            have hS6 := Lib.hid (show SV P Q w g b off b' off' j n c d t t' (.slice a1 n1 x1) (.slice a2 n2 x2) (.slice b1 m1 z1) (.slice b2 m2 z2) lm.2 hm2.2 ls hs wr.drew from
              SV.keep ⟨hpac.1, hpac.2.1, f1, f2, f3, k1, k2, k3, hpa, hT, hU⟩ (bdrew (bref wr)))
            clear hcl hcn hlm hld hhm hpa hpac hL hH hT hU f1 f2 f3 k1 k2 k3 q2 q3 r2 r3 s2 s3 hj hjb
            go_upto_region 15 with fail
            go_region_held3 (fun W => W.cell? ⟨g, 0, none⟩ = some (.slice (some ⟨b, off, none⟩) n c) ∧ W.cell? ⟨g + 1, 0, none⟩ = some (.slice (some ⟨b', off', none⟩) n d) ∧ W.cell? ⟨b, off + j * 4 + 1, none⟩ = some (.int .i64 t) ∧ W.cell? ⟨b, off + j * 4 + 2, none⟩ = some (.slice a1 n1 x1) ∧ W.cell? ⟨b, off + j * 4 + 3, none⟩ = some (.slice a2 n2 x2) ∧ W.cell? ⟨b', off' + j * 4 + 1, none⟩ = some (.int .i64 t') ∧ W.cell? ⟨b', off' + j * 4 + 2, none⟩ = some (.slice b1 m1 z1) ∧ W.cell? ⟨b', off' + j * 4 + 3, none⟩ = some (.slice b2 m2 z2) ∧ (PA P Q w g (.slice (some ⟨b, off, none⟩) n c) (.slice (some ⟨b', off', none⟩) n d) ls hs W ∧ TAt P 3 W (.int .i64 t) (.slice a1 n1 x1) (.slice a2 n2 x2) lm.2 ∧ TAt Q 3 W (.int .i64 t') (.slice b1 m1 z1) (.slice b2 m2 z2) hm2.2)) (first | exact hS6.out | exact hSK | exact SV.keep (by assumption) hbK | go_keep)
              (first
                | (go_at_call 113; refine (HIM.out _ (by exact (svL (by assumption)).2.1) (by exact (svL (by assumption)).2.2)).mono ?_; rintro e WK ⟨rfl, hbK⟩; have hSK := SV.keep (by assumption) hbK))
            all_goals
              have HBN := Lib.hid (bstep (bstep hBe.out (bdrew (bref wr))) hbK)
              go_wp2_with fail
              go_roundw
              case rel => exact ⟨k + 1, hlt, by go_num, HBN⟩
              case measure => simp [intOf]; omega
          · obtain rfl : k = m := by omega
            have HBF := Lib.hid (HPA6.out.to hBe.out).bel
            go_wp2_with fail
            go_ret
            exact ⟨rfl, HBF.out⟩
    · have hk01 : k = 0 ∨ k = 1 := by omega
      rcases hk01 with rfl | rfl
      · have e0 : wr.cell? ⟨a, 0, none⟩ = some (.slice A n c) := cell_of_row _ _ 0 _ _ (0, 0) hrow
        have HB2 := Lib.hid (balloc hBe.out (.cells #[.slice A n c] 27))
        have hM := (HPA2.out.ml.below HB2.out)
        have HMM := Lib.hid hM
        clear hM
        go_wp2_with fail
        refine (D3.cvalid_run _ ls _ _ (by first | (have := HN.out; omega) | (have := HN.out; have := HNH.out; omega)) HMM.out (by first | (rw [HN.out]; exact HOL.out) | (rw [HNH.out]; exact HOL.out))).mono ?_
        rintro e W5 ⟨rfl, hb5⟩
        have HB5 := Lib.hid (bstep HB2.out hb5)
        clear hb5
        go_wp2_with fail
        go_roundw
        case rel => exact ⟨1, by omega, by first | rfl | go_num, HB5⟩
        case measure => simp [intOf]
      · have e0 : wr.cell? ⟨a, 1, none⟩ = some (.slice B n d) := cell_of_row _ _ 1 _ _ (0, 0) hrow
        have HB2 := Lib.hid (balloc hBe.out (.cells #[.slice B n d] 27))
        have hM := (HPA2.out.mh.below HB2.out)
        have HMM := Lib.hid hM
        clear hM
        go_wp2_with fail
        refine (D3.cvalid_run _ hs _ _ (by first | (have := HN.out; omega) | (have := HN.out; have := HNH.out; omega)) HMM.out (by first | (rw [HN.out]; exact HOH.out) | (rw [HNH.out]; exact HOH.out))).mono ?_
        rintro e W5 ⟨rfl, hb5⟩
        have HB5 := Lib.hid (bstep HB2.out hb5)
        clear hb5
        go_wp2_with fail
        go_roundw
        case rel => exact ⟨2, by omega, by first | rfl | go_num, HB5⟩
        case measure => simp [intOf]


set_option maxRecDepth 100000 in
set_option maxHeartbeats 4000000 in
theorem dpvpair_run (P Q : Nat → Prop) (ls hs : List Mem) (vl vh : Value) (s : Nat) (hsx : s < 2 ^ ls.length) (w : World) (hl : ls.length ≤ 7) (h1 : MemsAt P 3 w vl ls) (h2 : MemsAt Q 3 w vh hs) (hp : PairM ls hs) :
    Calls Tryz.prog 47 #[.agg #[vl], .agg #[vh], .int .i64 (s : Int)] w fun e w' => e = .returned (.int .i64 0) ∧ Below w.heap.size w w' := by
  have HS := Lib.hid hsx
  clear hsx
  obtain ⟨A, c, rfl⟩ := h1.slice
  obtain ⟨B, d, rfl⟩ := h2.slice
  have hlen := hp.len
  have hokl := hp.okl
  have hokh := hp.okh
  have hdec := hp.decl
  have HDL := Lib.hid (fun W (h : MemsAt P 3 W (.slice A ls.length c) ls) => declared_run P 3 ls _ W (by omega) h)
  have HDH := Lib.hid (fun W (h : MemsAt Q 3 W (.slice B hs.length d) hs) => declared_run Q 3 hs _ W (by omega) h)
  rw [hdec] at HDH
  rw [hlen] at h2 HDH hokh ⊢
  obtain ⟨n, hn⟩ : ∃ n, ls.length = n := ⟨_, rfl⟩
  have HN := Lib.hid hn
  have HNH := Lib.hid hlen
  rw [hn] at HNH
  have HD := Lib.hid (fun k (h : (declS ls ls.length).testBit k = true) => declS_bit h)
  have HDM := Lib.hid (fun k (h : (declS ls ls.length).testBit k = true) => declS_memD h)
  have hDl : declS ls ls.length < 1024 := declS_lt ls _ (by omega)
  generalize declS ls ls.length = D at HDL HDH hDl HD HDM
  rw [hn] at h1 h2 HDL HDH hokl hokh hl HD ⊢
  have HP := Lib.hid hp
  have HOL := Lib.hid hokl
  have HOH := Lib.hid hokh
  have HPA := Lib.hid (PA.new h1 h2)
  clear h1 h2 hp hokl hokh hn hdec hlen
  go_enter Tryz.func47, Tryz.ntmps47
  go_upto_region 1 with fail
  generalize ((w.alloc (.cells #[.slice A n c] 27)).alloc (.cells #[.slice B n d] 27)) = W1 at *
  generalize w.heap.size = g at HPA ⊢
  have l0 := HPA.out.cs.1
  have h0 := HPA.out.cs.2.1
  go_wp2_with fail
  refine (dpvalid_run P Q ls hs _ _ _ (by rw [HN.out]; exact hl) HPA.out.ml HPA.out.mh HP.out).mono ?_
  rintro e W1x ⟨rfl, hbx⟩
  have HPA1 := Lib.hid (HPA.out.to hbx)
  clear hbx l0 h0
  have l1 := HPA1.out.cs.1
  have h1 := HPA1.out.cs.2.1
  go_wp2_with fail
  refine (dpsubset_run P ls _ s _ (by rw [HN.out]; omega) HS.out HPA1.out.ml (by rw [HN.out]; exact HOL.out)).mono ?_
  rintro e W2x ⟨rfl, hbx⟩
  have HPA2 := Lib.hid (HPA1.out.to hbx)
  clear hbx l1 h1
  have l2 := HPA2.out.cs.1
  have h2 := HPA2.out.cs.2.1
  go_wp2_with fail
  go_ret
  exact ⟨rfl, HPA2.out.bel⟩

set_option maxRecDepth 100000 in
set_option maxHeartbeats 4000000 in
theorem dpis_run (P Q : Nat → Prop) (ls hs : List Mem) (vl vh : Value) (s : Nat) (hsx : s < 2 ^ ls.length) (w : World) (hl : ls.length ≤ 7) (h1 : MemsAt P 3 w vl ls) (h2 : MemsAt Q 3 w vh hs) (hp : PairM ls hs) :
    Calls Tryz.prog 50 #[.agg #[vl], .agg #[vh], .int .i64 (s : Int)] w fun e w' => (∃ x : Bool, e = .returned (.bool x) ∧ (x = true ↔ AvT hs s ∧ InT (D3.delM s ls))) ∧ Below w.heap.size w w' := by
  have HS := Lib.hid hsx
  clear hsx
  obtain ⟨A, c, rfl⟩ := h1.slice
  obtain ⟨B, d, rfl⟩ := h2.slice
  have hlen := hp.len
  have hokl := hp.okl
  have hokh := hp.okh
  have hdec := hp.decl
  have HDL := Lib.hid (fun W (h : MemsAt P 3 W (.slice A ls.length c) ls) => declared_run P 3 ls _ W (by omega) h)
  have HDH := Lib.hid (fun W (h : MemsAt Q 3 W (.slice B hs.length d) hs) => declared_run Q 3 hs _ W (by omega) h)
  rw [hdec] at HDH
  rw [hlen] at h2 HDH hokh ⊢
  obtain ⟨n, hn⟩ : ∃ n, ls.length = n := ⟨_, rfl⟩
  have HN := Lib.hid hn
  have HNH := Lib.hid hlen
  rw [hn] at HNH
  have HD := Lib.hid (fun k (h : (declS ls ls.length).testBit k = true) => declS_bit h)
  have HDM := Lib.hid (fun k (h : (declS ls ls.length).testBit k = true) => declS_memD h)
  have hDl : declS ls ls.length < 1024 := declS_lt ls _ (by omega)
  generalize declS ls ls.length = D at HDL HDH hDl HD HDM
  rw [hn] at h1 h2 HDL HDH hokl hokh hl HD ⊢
  have HP := Lib.hid hp
  have HOL := Lib.hid hokl
  have HOH := Lib.hid hokh
  have HPA := Lib.hid (PA.new h1 h2)
  clear h1 h2 hp hokl hokh hn hdec hlen
  go_enter Tryz.func50, Tryz.ntmps50
  go_upto_region 1 with fail
  generalize ((w.alloc (.cells #[.slice A n c] 27)).alloc (.cells #[.slice B n d] 27)) = W1 at *
  generalize w.heap.size = g at HPA ⊢
  have l0 := HPA.out.cs.1
  have h0 := HPA.out.cs.2.1
  go_wp2_with fail
  refine (dpavail_run Q hs _ s _ (by rw [HNH.out]; omega) (by rw [HP.out.len]; exact HS.out) HPA.out.mh (by rw [HNH.out]; exact HOH.out)).mono ?_
  rintro e W1x ⟨⟨x, rfl, hx⟩, hbx⟩
  have HPA1 := Lib.hid (HPA.out.to hbx)
  clear hbx l0 h0
  have l1 := HPA1.out.cs.1
  have h1 := HPA1.out.cs.2.1
  have HX := Lib.hid hx
  clear hx
  cases x
  · go_wp2_with fail
    go_ret
    exact ⟨⟨false, rfl, iff_of_false (by simp) (fun h => by have := HX.out.2 h.1; cases this)⟩, HPA1.out.bel⟩
  · go_wp2_with fail
    refine (dpints_run P ls _ s _ (by rw [HN.out]; omega) HS.out HPA1.out.ml (by rw [HN.out]; exact HOL.out)).mono ?_
    rintro e W2x ⟨⟨y, rfl, hy⟩, hbx⟩
    have HPA2 := Lib.hid (HPA1.out.to hbx)
    clear hbx l1 h1
    have l2 := HPA2.out.cs.1
    have h2 := HPA2.out.cs.2.1
    have HY := Lib.hid hy
    clear hy
    go_wp2_with fail
    go_ret
    exact ⟨⟨y, rfl, HY.out.trans ⟨fun h => ⟨HX.out.1 (by first | rfl | trivial), h⟩, fun h => h.2⟩⟩, HPA2.out.bel⟩

set_option maxRecDepth 100000 in
set_option maxHeartbeats 4000000 in
theorem dpIs_run (P Q : Nat → Prop) (ls hs : List Mem) (vl vh : Value) (s : Nat) (hsx : s < 2 ^ ls.length) (w : World) (hl : ls.length ≤ 7) (h1 : MemsAt P 3 w vl ls) (h2 : MemsAt Q 3 w vh hs) (hp : PairM ls hs) :
    Calls Tryz.prog 19 #[.agg #[vl], .agg #[vh], .int .i64 (s : Int)] w fun e w' => (∃ x : Bool, e = .returned (.tuple #[.bool x, .int .i64 0]) ∧ (x = true ↔ AvT hs s ∧ InT (D3.delM s ls))) ∧ Below w.heap.size w w' := by
  have HS := Lib.hid hsx
  clear hsx
  obtain ⟨A, c, rfl⟩ := h1.slice
  obtain ⟨B, d, rfl⟩ := h2.slice
  have hlen := hp.len
  have hokl := hp.okl
  have hokh := hp.okh
  have hdec := hp.decl
  have HDL := Lib.hid (fun W (h : MemsAt P 3 W (.slice A ls.length c) ls) => declared_run P 3 ls _ W (by omega) h)
  have HDH := Lib.hid (fun W (h : MemsAt Q 3 W (.slice B hs.length d) hs) => declared_run Q 3 hs _ W (by omega) h)
  rw [hdec] at HDH
  rw [hlen] at h2 HDH hokh ⊢
  obtain ⟨n, hn⟩ : ∃ n, ls.length = n := ⟨_, rfl⟩
  have HN := Lib.hid hn
  have HNH := Lib.hid hlen
  rw [hn] at HNH
  have HD := Lib.hid (fun k (h : (declS ls ls.length).testBit k = true) => declS_bit h)
  have HDM := Lib.hid (fun k (h : (declS ls ls.length).testBit k = true) => declS_memD h)
  have hDl : declS ls ls.length < 1024 := declS_lt ls _ (by omega)
  generalize declS ls ls.length = D at HDL HDH hDl HD HDM
  rw [hn] at h1 h2 HDL HDH hokl hokh hl HD ⊢
  have HP := Lib.hid hp
  have HOL := Lib.hid hokl
  have HOH := Lib.hid hokh
  have HPA := Lib.hid (PA.new h1 h2)
  clear h1 h2 hp hokl hokh hn hdec hlen
  go_enter Tryz.func19, Tryz.ntmps19
  go_upto_region 1 with fail
  generalize ((w.alloc (.cells #[.slice A n c] 27)).alloc (.cells #[.slice B n d] 27)) = W1 at *
  generalize w.heap.size = g at HPA ⊢
  have l0 := HPA.out.cs.1
  have h0 := HPA.out.cs.2.1
  go_wp2_with fail
  refine (dpvpair_run P Q ls hs _ _ s HS.out _ (by rw [HN.out]; exact hl) HPA.out.ml HPA.out.mh HP.out).mono ?_
  rintro e W1x ⟨rfl, hbx⟩
  have HPA1 := Lib.hid (HPA.out.to hbx)
  clear hbx l0 h0
  have l1 := HPA1.out.cs.1
  have h1 := HPA1.out.cs.2.1
  go_wp2_with fail
  refine (dpis_run P Q ls hs _ _ s HS.out _ (by rw [HN.out]; exact hl) HPA1.out.ml HPA1.out.mh HP.out).mono ?_
  rintro e W2x ⟨⟨x, rfl, hx⟩, hbx⟩
  have HPA2 := Lib.hid (HPA1.out.to hbx)
  clear hbx l1 h1
  have l2 := HPA2.out.cs.1
  have h2 := HPA2.out.cs.2.1
  have HX := Lib.hid hx
  clear hx
  go_wp2_with fail
  go_ret2
  exact ⟨⟨x, rfl, HX.out⟩, HPA2.out.bel⟩

end Go.Proofs.YtacpfcckilnbfaaGreat

namespace Go.Proofs.YtacpfcckilnbfaaGreat
set_option linter.unusedVariables false
set_option linter.unusedSimpArgs false
open Go.RowKit

def orI (x y : Int) : Int := if x = 0 then y else x

def cmpI (a b : Int) : Int := if a < b then -1 else if b < a then 1 else 0

set_option maxHeartbeats 400000 in
theorem cmp_any (a b : Int) (w : World) :
    Calls Tryz.prog 137 #[.int .i64 a, .int .i64 b] w fun e w' => e = .returned (.int .i64 (cmpI a b)) ∧ w = w' := by
  rcases Int.lt_trichotomy a b with h | h | h
  · have hv : cmpI a b = -1 := by unfold cmpI; rw [if_pos h]
    have HV := Lib.hid hv
    clear hv
    go_enter Tryz.func137, Tryz.ntmps137
    go_wp2
    go_ret
    exact ⟨by rw [HV.out]; rfl, rfl⟩
  · subst h
    have hv : cmpI a a = 0 := by unfold cmpI; simp
    have HV := Lib.hid hv
    clear hv
    go_enter Tryz.func137, Tryz.ntmps137
    go_wp2
    go_ret
    exact ⟨by rw [HV.out]; rfl, rfl⟩
  · have hv : cmpI a b = 1 := by unfold cmpI; rw [if_neg (by omega), if_pos h]
    have HV := Lib.hid hv
    have hn : ¬ a < b := by omega
    clear hv
    go_enter Tryz.func137, Tryz.ntmps137
    go_wp2
    go_ret
    exact ⟨by rw [HV.out]; rfl, rfl⟩

set_option maxHeartbeats 1000000 in
theorem or_run (x y : Int) (g : Nat) (w : World) (h0 : w.cell? ⟨g, 0, none⟩ = some (.int .i64 x)) (h1 : w.cell? ⟨g, 1, none⟩ = some (.int .i64 y)) :
    Calls Tryz.prog 138 #[.slice (some ⟨g, 0, none⟩) 2 2] w fun e w' => e = .returned (.int .i64 (orI x y)) ∧ w = w' := by
  have key : ∀ r, orI x y = r → (x = 0 → y = 0 ∨ y ≠ 0) := fun _ _ _ => by omega
  by_cases hx : x = 0
  · have hx0 : (x == 0) = true := by simp [hx]
    have hx1 : (x != 0) = false := by simp [hx]
    by_cases hy : y = 0
    · have hy0 : (y != 0) = false := by simp [hy]
      have HO := Lib.hid (show orI x y = 0 by unfold orI; simp [hx, hy])
      clear key hx hy
      go_enter Tryz.func138, Tryz.ntmps138
      go_wp2_with fail
      go_loop [8] (fun t => ∃ q : Nat, q ≤ 2 ∧ t = .int .i64 q) (fun t => 2 - (intOf t).toNat)
      case atStart => exact ⟨0, by omega, rfl⟩
      case round =>
        obtain ⟨q, hq, rfl⟩ := hrel
        match q, hq with
        | 0, _ =>
          go_wp2_with fail
          go_round
          case rel => exact ⟨1, by omega, rfl⟩
          case measure => simp [intOf]
        | 1, _ =>
          go_wp2_with fail
          go_round
          case rel => exact ⟨2, by omega, rfl⟩
          case measure => simp [intOf]
        | 2, _ =>
          go_wp2_with fail
          go_ret
          exact ⟨by rw [HO.out]; rfl, rfl⟩
    · have hy0 : (y != 0) = true := by simp [hy]
      have HO := Lib.hid (show orI x y = y by unfold orI; simp [hx])
      clear key hx hy
      go_enter Tryz.func138, Tryz.ntmps138
      go_wp2_with fail
      go_loop [8] (fun t => ∃ q : Nat, q ≤ 1 ∧ t = .int .i64 q) (fun t => 2 - (intOf t).toNat)
      case atStart => exact ⟨0, by omega, rfl⟩
      case round =>
        obtain ⟨q, hq, rfl⟩ := hrel
        match q, hq with
        | 0, _ =>
          go_wp2_with fail
          go_round
          case rel => exact ⟨1, by omega, rfl⟩
          case measure => simp [intOf]
        | 1, _ =>
          go_wp2_with fail
          go_ret
          exact ⟨by rw [HO.out]; rfl, rfl⟩
  · have hx1 : (x != 0) = true := by simp [hx]
    have HO := Lib.hid (show orI x y = x by unfold orI; simp [hx])
    clear key hx
    go_enter Tryz.func138, Tryz.ntmps138
    go_wp2_with fail
    go_loop [8] (fun t => t = .int .i64 0) (fun t => 0)
    case atStart => rfl
    case round =>
      obtain rfl := hrel
      go_wp2_with fail
      go_ret
      exact ⟨by rw [HO.out]; rfl, rfl⟩

/-- The place of a set in the order of sets. -/
def keyC (s : Nat) : Nat := popc s * 1024 + s

/-- What nodeset.Compare answers. -/
def cmpN (a b : Int) : Int := if setB a = setB b then (if setB a = true then orI (cmpI (popc a.toNat : Nat) (popc b.toNat : Nat)) (cmpI a b) else cmpI a b) else if setB b = true then -1 else 1

set_option maxHeartbeats 2000000 in
theorem pcompare_run (a b : Int) (w : World) :
    Calls Tryz.prog 115 #[.int .i64 a, .int .i64 b] w fun e w' => e = .returned (.int .i64 (cmpN a b)) ∧ ∃ os, w' = Go.Sort.grow w os := by
  cases ha : setB a <;> cases hb : setB b
  · have HV := Lib.hid (show cmpN a b = cmpI a b by unfold cmpN; rw [ha, hb]; simp)
    go_enter Tryz.func115, Tryz.ntmps115
    go_wp2_with (first | (go_at_call 88; refine (setValid_run _ _).mono ?_; rintro e w2 ⟨rfl, rfl⟩) | (go_at_call 137; refine (cmp_any _ _ _).mono ?_; rintro e w2 ⟨rfl, rfl⟩))
    go_ret
    exact ⟨by rw [HV.out]; rfl, #[], by rw [Go.Sort.grow_empty]⟩
  · have HV := Lib.hid (show cmpN a b = -1 by unfold cmpN; rw [ha, hb]; simp)
    go_enter Tryz.func115, Tryz.ntmps115
    go_wp2_with (first | (go_at_call 88; refine (setValid_run _ _).mono ?_; rintro e w2 ⟨rfl, rfl⟩))
    go_ret
    exact ⟨by rw [HV.out]; rfl, #[], by rw [Go.Sort.grow_empty]⟩
  · have HV := Lib.hid (show cmpN a b = 1 by unfold cmpN; rw [ha, hb]; simp)
    go_enter Tryz.func115, Tryz.ntmps115
    go_wp2_with (first | (go_at_call 88; refine (setValid_run _ _).mono ?_; rintro e w2 ⟨rfl, rfl⟩))
    go_ret
    exact ⟨by rw [HV.out]; rfl, #[], by rw [Go.Sort.grow_empty]⟩
  · obtain ⟨a0, a1⟩ := setB_iff.1 ha
    obtain ⟨b0, b1⟩ := setB_iff.1 hb
    obtain ⟨s, rfl⟩ := Int.eq_ofNat_of_zero_le a0
    obtain ⟨t, rfl⟩ := Int.eq_ofNat_of_zero_le b0
    have HV := Lib.hid (show cmpN s t = orI (cmpI (popc s : Nat) (popc t : Nat)) (cmpI s t) by unfold cmpN; rw [ha, hb]; simp)
    go_enter Tryz.func115, Tryz.ntmps115
    go_wp2_with fail
    refine (setValid_run _ _).mono ?_
    rintro e w2 ⟨rfl, rfl⟩
    rw [ha]
    go_wp2_with fail
    refine (setValid_run _ _).mono ?_
    rintro e w2 ⟨rfl, rfl⟩
    rw [hb]
    go_wp2_with fail
    refine (setValid_run _ _).mono ?_
    rintro e w2 ⟨rfl, rfl⟩
    rw [ha]
    go_wp2_with fail
    refine (psize_run s (by omega) _).mono ?_
    rintro e w2 ⟨rfl, rfl⟩
    go_wp2_with fail
    refine (psize_run t (by omega) _).mono ?_
    rintro e w2 ⟨rfl, rfl⟩
    generalize popc s = ps at *
    generalize popc t = pt at *
    go_wp2_with fail
    refine (cmp_any _ _ _).mono ?_
    rintro e w2 ⟨rfl, rfl⟩
    generalize cmpI ps pt = u at *
    go_wp2_with fail
    refine (cmp_any _ _ _).mono ?_
    rintro e w2 ⟨rfl, rfl⟩
    generalize cmpI s t = v at *
    go_wp2_with fail
    refine (or_run u v _ _ (cell_of_row _ _ 0 _ _ (0, 0) (heap_alloc_new _ _)) (cell_of_row _ _ 1 _ _ (0, 0) (heap_alloc_new _ _))).mono ?_
    rintro e w2 ⟨rfl, rfl⟩
    go_wp2_with fail
    go_ret
    exact ⟨by rw [HV.out]; rfl, #[.cells #[.int .i64 u, .int .i64 v] 3], Go.Sort.alloc_eq_grow _ _⟩

/-- The three keys of the order of sets. -/
def rkA (a : Int) : Int := if setB a = true then 1 else 0

def rkB (a : Int) : Int := if setB a = true then (popc a.toNat : Nat) else 0

theorem orI_lt (x y : Int) : (orI x y < 0) ↔ (x < 0 ∨ (x = 0 ∧ y < 0)) := by unfold orI; split <;> omega

theorem cmpI_lt (x y : Int) : (cmpI x y < 0) ↔ x < y := by unfold cmpI; split <;> (try split) <;> omega

theorem cmpI_eq (x y : Int) : (cmpI x y = 0) ↔ x = y := by unfold cmpI; split <;> (try split) <;> omega

theorem cmpN_lt (x y : Int) : (cmpN x y < 0) ↔ (rkA x < rkA y ∨ (rkA x = rkA y ∧ (rkB x < rkB y ∨ (rkB x = rkB y ∧ x < y)))) := by
  unfold cmpN rkA rkB
  cases setB x <;> cases setB y <;> simp [orI_lt, cmpI_lt, cmpI_eq]

theorem cmpN_cast (s t : Nat) (hs : s < 1024) (ht : t < 1024) : (cmpN s t < 0) ↔ keyC s < keyC t := by
  have h1 : setB (s : Int) = true := setB_iff.2 ⟨by omega, by omega⟩
  have h2 : setB (t : Int) = true := setB_iff.2 ⟨by omega, by omega⟩
  rw [cmpN_lt]
  unfold rkA rkB keyC
  rw [if_pos h1, if_pos h2, if_pos h1, if_pos h2]
  simp only [Int.toNat_natCast, Int.lt_irrefl, false_or, true_and, Int.ofNat_lt, Int.natCast_inj]
  omega

theorem dif_nat (a b : Nat) (ha : a < 1024) (hb : b < 1024) : bits .andNot .i64 (a : Int) (b : Int) = ((a ^^^ (a &&& b) : Nat) : Int) := by
  have hx : a ^^^ (a &&& b) < 2 ^ 63 := Nat.xor_lt_two_pow (by omega) (Nat.lt_of_le_of_lt Nat.and_le_left (by omega))
  show IntKind.i64.wrap ((BitVec.ofInt 64 (a : Int) &&& ~~~BitVec.ofInt 64 (b : Int)).toNat : Int) = _
  have e : (BitVec.ofInt 64 (a : Int) &&& ~~~BitVec.ofInt 64 (b : Int)).toNat = a ^^^ (a &&& b) := by
    apply Nat.eq_of_testBit_eq
    intro i
    rw [BitVec.toNat_and, BitVec.toNat_not, ofInt_i64 a (by omega), ofInt_i64 b (by omega), Nat.testBit_and, Nat.testBit_xor, Nat.testBit_and]
    have h2 : (2 : Nat) ^ 64 - 1 - b = 2 ^ 64 - (b + 1) := by omega
    rw [h2, Nat.testBit_two_pow_sub_succ (by omega)]
    rcases Nat.lt_or_ge i 64 with hi | hi
    · simp only [hi, decide_true, Bool.true_and]
      cases a.testBit i <;> cases b.testBit i <;> rfl
    · have h10 : (1024 : Nat) ≤ 2 ^ i := Nat.le_trans (by decide) (Nat.pow_le_pow_right (n := 2) (by omega) hi)
      rw [Nat.testBit_lt_two_pow (show a < 2 ^ i by omega)]; rfl
  rw [e, IntKind.wrap_i64]
  omega

/-- Is t a subset of s? -/
def subB (t s : Nat) : Bool := t &&& s == t

theorem xor_zero {a b : Nat} : a ^^^ b = 0 ↔ a = b := by
  constructor
  · intro h
    apply Nat.eq_of_testBit_eq
    intro i
    have := congrArg (fun x => x.testBit i) h
    simp only [Nat.testBit_xor, Nat.zero_testBit] at this
    revert this
    cases a.testBit i <;> cases b.testBit i <;> simp
  · rintro rfl; exact Nat.xor_self _

theorem andnot_sub (t s : Nat) (ht : t < 1024) (hs : s < 1024) : (bits .andNot .i64 (t : Int) (s : Int) == 0) = subB t s := by
  rw [dif_nat t s ht hs]
  unfold subB
  rw [Bool.eq_iff_iff]
  simp only [beq_iff_eq]
  rw [show ((0 : Int)) = ((0 : Nat) : Int) from rfl, Int.natCast_inj, xor_zero]
  exact eq_comm

end Go.Proofs.YtacpfcckilnbfaaGreat

namespace Go.Proofs
open Go.Shelf
def YtacpfcckilnbfaaGreat.sortL_ren : Go.Shelf.Ren := ⟨fun | 6 => 114 | 15 => 90 | 14 => 136 | 28 => 116 | 29 => 117 | 20 => 152 | 21 => 153 | 22 => 154 | 23 => 155 | 24 => 156 | 25 => 157 | 26 => 158 | 27 => 159 | 46 => 166 | 47 => 167 | 48 => 168 | 49 => 169 | 50 => 170 | 57 => 181 | n => n, fun | 22 => 22 | 24 => 3 | 25 => 96 | 3 => 3 | 39 => 103 | 0 => 0 | 53 => 117 | 55 => 119 | 4 => 4 | 46 => 140 | 45 => 139 | 50 => 121 | 5 => 5 | 9 => 9 | 66 => 150 | 70 => 146 | 76 => 159 | 77 => 90 | n => n, fun | n => n⟩
theorem YtacpfcckilnbfaaGreat.sortL : Go.Proofs.SlLaysF.n6 Tryz.prog YtacpfcckilnbfaaGreat.sortL_ren := {
  mixed := by kernel_rfl
  f6 := ⟨Tryz.f114.name, by decide, Tryz.func114.trans (congrArg some (by kernel_rfl))⟩
  f14 := ⟨Tryz.f136.name, by decide, Tryz.func136.trans (congrArg some (by kernel_rfl))⟩
  f15 := Tryz.func90.trans (congrArg some (by kernel_rfl))
  f20 := ⟨Tryz.f152.name, by decide, Tryz.func152.trans (congrArg some (by kernel_rfl))⟩
  f21 := ⟨Tryz.f153.name, by decide, Tryz.func153.trans (congrArg some (by kernel_rfl))⟩
  f22 := ⟨Tryz.f154.name, by decide, Tryz.func154.trans (congrArg some (by kernel_rfl))⟩
  f23 := ⟨Tryz.f155.name, by decide, Tryz.func155.trans (congrArg some (by kernel_rfl))⟩
  f24 := ⟨Tryz.f156.name, by decide, Tryz.func156.trans (congrArg some (by kernel_rfl))⟩
  f25 := ⟨Tryz.f157.name, by decide, Tryz.func157.trans (congrArg some (by kernel_rfl))⟩
  f26 := ⟨Tryz.f158.name, by decide, Tryz.func158.trans (congrArg some (by kernel_rfl))⟩
  f27 := ⟨Tryz.f159.name, by decide, Tryz.func159.trans (congrArg some (by kernel_rfl))⟩
  f28 := Tryz.func116.trans (congrArg some (by kernel_rfl))
  f29 := Tryz.func117.trans (congrArg some (by kernel_rfl))
  f46 := ⟨Tryz.f166.name, by decide, Tryz.func166.trans (congrArg some (by kernel_rfl))⟩
  f47 := Tryz.func167.trans (congrArg some (by kernel_rfl))
  f48 := Tryz.func168.trans (congrArg some (by kernel_rfl))
  f49 := ⟨Tryz.f169.name, by decide, Tryz.func169.trans (congrArg some (by kernel_rfl))⟩
  f50 := ⟨Tryz.f170.name, by decide, Tryz.func170.trans (congrArg some (by kernel_rfl))⟩
  f57 := ⟨Tryz.f181.name, by decide, Tryz.func181.trans (congrArg some (by kernel_rfl))⟩
  t0 := Tryz.underlying0
  a0 := Tryz.isAgg0
  z0 := Tryz.sizeOf0
  v0 := Tryz.zeroValue0
  t3 := Tryz.underlying3
  a3 := Tryz.isAgg3
  z3 := Tryz.sizeOf3
  v3 := Tryz.zeroValue3
  t4 := Tryz.underlying4
  a4 := Tryz.isAgg4
  z4 := Tryz.sizeOf4
  v4 := Tryz.zeroValue4
  t5 := Tryz.underlying5
  a5 := Tryz.isAgg5
  z5 := Tryz.sizeOf5
  v5 := Tryz.zeroValue5
  t9 := Tryz.underlying9
  a9 := Tryz.isAgg9
  z9 := Tryz.sizeOf9
  v9 := Tryz.zeroValue9
  t22 := Tryz.underlying22
  a22 := Tryz.isAgg22
  z22 := Tryz.sizeOf22
  v22 := Tryz.zeroValue22
  a24 := Tryz.isAgg3
  z24 := Tryz.sizeOf3
  t25 := Tryz.underlying96
  a25 := Tryz.isAgg96
  z25 := Tryz.sizeOf96
  v25 := Tryz.zeroValue96
  t39 := Tryz.underlying103
  a39 := Tryz.isAgg103
  z39 := Tryz.sizeOf103
  v39 := Tryz.zeroValue103
  t45 := Tryz.underlying139
  a45 := Tryz.isAgg139
  z45 := Tryz.sizeOf139
  v45 := Tryz.zeroValue139
  t46 := Tryz.underlying140
  a46 := Tryz.isAgg140
  z46 := Tryz.sizeOf140
  v46 := Tryz.zeroValue140
  t50 := Tryz.underlying121
  a50 := Tryz.isAgg121
  z50 := Tryz.sizeOf121
  v50 := Tryz.zeroValue121
  t53 := Tryz.underlying117
  a53 := Tryz.isAgg117
  z53 := Tryz.sizeOf117
  v53 := Tryz.zeroValue117
  t55 := Tryz.underlying119
  a55 := Tryz.isAgg119
  z55 := Tryz.sizeOf119
  v55 := Tryz.zeroValue119
  t66 := Tryz.underlying150
  a66 := Tryz.isAgg150
  z66 := Tryz.sizeOf150
  v66 := Tryz.zeroValue150
  t70 := Tryz.underlying146
  a70 := Tryz.isAgg146
  z70 := Tryz.sizeOf146
  v70 := Tryz.zeroValue146
  t76 := Tryz.underlying159
  a76 := Tryz.isAgg159
  z76 := Tryz.sizeOf159
  v76 := Tryz.zeroValue159
  t77 := Tryz.underlying90
  a77 := Tryz.isAgg90
  z77 := Tryz.sizeOf90
  v77 := Tryz.zeroValue90 }
end Go.Proofs

namespace Go.Proofs.YtacpfcckilnbfaaGreat
set_option linter.unusedVariables false
set_option linter.unusedSimpArgs false
open Go.RowKit Go.Sort

theorem ltN_iff (x y : Int) : Go.Proofs.ltOf cmpN x y = true ↔ (rkA x < rkA y ∨ (rkA x = rkA y ∧ (rkB x < rkB y ∨ (rkB x = rkB y ∧ x < y)))) := by
  unfold Go.Proofs.ltOf
  rw [decide_eq_true_iff, cmpN_lt]

theorem ltN_not (x y : Int) : Go.Proofs.ltOf cmpN x y = false ↔ ¬ (rkA x < rkA y ∨ (rkA x = rkA y ∧ (rkB x < rkB y ∨ (rkB x = rkB y ∧ x < y)))) := by
  rw [← ltN_iff, Bool.not_eq_true]

theorem swoN : SWO (Go.Proofs.ltOf cmpN) where
  irrefl x := by rw [ltN_not]; omega
  trans x y z h1 h2 := by rw [ltN_iff] at *; omega
  ntrans x y z h1 h2 := by rw [ltN_not] at *; omega

theorem totN (x y : Int) (h1 : Go.Proofs.ltOf cmpN x y = false) (h2 : Go.Proofs.ltOf cmpN y x = false) : x = y := by rw [ltN_not] at *; omega

def zs (l : List Nat) : List Int := l.map (fun t : Nat => (t : Int))

theorem zs_len (l : List Nat) : (zs l).length = l.length := List.length_map _

theorem zs_snoc (l : List Nat) (x : Nat) : zs (l ++ [x]) = zs l ++ [(x : Int)] := by unfold zs; rw [List.map_append]; rfl

theorem NodesAt.of_ownZ {W : World} {B : Nat} {v : Value} {l : List Nat} (h : W.ownsRow B 3 1 v l.length ((zs l).map (Value.int .i64))) : NodesAt (fun b => B ≤ b) W v (zs l) := NodesAt.of_own (by rw [zs_len]; exact h)

theorem own_snocZ {w : World} {v : Value} {B : Nat} {l : List Nat} {x : Nat} (h : w.ownsRow B 3 1 v (l.length + 1) ((zs l).map (Value.int .i64) ++ [.int .i64 (x : Int)])) : w.ownsRow B 3 1 v (l ++ [x]).length ((zs (l ++ [x])).map (Value.int .i64)) := by
  rw [zs_snoc, List.map_append, List.length_append]; exact h

/-- In the order of sets, each once. -/
def Asc (l : List Nat) : Prop := l.Pairwise (fun a b => keyC a < keyC b)

theorem keyC_inj {a b : Nat} (ha : a < 1024) (hb : b < 1024) (h : keyC a = keyC b) : a = b := by unfold keyC at h; omega

theorem sorted_nat (l : List Nat) (hl : ∀ t ∈ l, t < 1024) (hd : l.Nodup) :
    ∃ m : List Nat, (zs l).mergeSort (fun x y => !(Go.Proofs.ltOf cmpN) y x) = zs m ∧ m.Perm l ∧ Asc m := by
  have hp := List.mergeSort_perm (zs l) (fun x y => !(Go.Proofs.ltOf cmpN) y x)
  have hs := List.pairwise_mergeSort (le := fun x y => !(Go.Proofs.ltOf cmpN) y x)
    (fun a b c h1 h2 => by simp only [Bool.not_eq_true', ltN_not] at *; omega)
    (fun a b => by
      by_cases h : Go.Proofs.ltOf cmpN b a = true
      · have : Go.Proofs.ltOf cmpN a b = false := by rw [ltN_iff] at h; rw [ltN_not]; omega
        simp [this]
      · simp [Bool.eq_false_iff.2 h]) (zs l)
  generalize (zs l).mergeSort (fun x y => !(Go.Proofs.ltOf cmpN) y x) = ts at *
  have hz : ∀ x ∈ ts, ∃ t : Nat, x = (t : Int) ∧ t ∈ l := fun x hx => by
    have := hp.mem_iff.1 hx
    obtain ⟨t, ht, rfl⟩ := List.mem_map.1 this
    exact ⟨t, rfl, ht⟩
  have hts : ts = zs (ts.map Int.toNat) := by
    unfold zs
    rw [List.map_map]
    conv => lhs; rw [← List.map_id ts]
    exact List.map_congr_left (fun x hx => by obtain ⟨t, rfl, _⟩ := hz x hx; rfl)
  have hpm : (ts.map Int.toNat).Perm l := by
    have := hp.map Int.toNat
    refine this.trans (List.Perm.of_eq ?_)
    unfold zs
    rw [List.map_map]
    conv => rhs; rw [← List.map_id l]
    exact List.map_congr_left (fun x _ => rfl)
  refine ⟨ts.map Int.toNat, hts, hpm, ?_⟩
  have hnd : (ts.map Int.toNat).Nodup := hpm.nodup_iff.2 hd
  unfold Asc
  generalize hm : ts.map Int.toNat = m at *
  rw [hts] at hs
  have hs2 : m.Pairwise (fun a b : Nat => (!(Go.Proofs.ltOf cmpN) (b : Int) (a : Int)) = true) := List.pairwise_map.1 hs
  have h3 := (List.Pairwise.and hs2 (List.nodup_iff_pairwise_ne.1 hnd))
  refine List.Pairwise.imp_of_mem (fun {a b} ha hb h => ?_) h3
  obtain ⟨h1, h2⟩ := h
  have ha' := hl a (hpm.mem_iff.1 ha)
  have hb' := hl b (hpm.mem_iff.1 hb)
  have h4 : ¬ keyC b < keyC a := by
    rw [← cmpN_cast b a hb' ha']
    simp only [Bool.not_eq_true'] at h1
    unfold Go.Proofs.ltOf at h1
    exact of_decide_eq_false h1
  rcases Nat.lt_trichotomy (keyC a) (keyC b) with h | h | h
  · exact h
  · exact (h2 (keyC_inj ha' hb' h)).elim
  · exact (h4 h).elim

theorem enters_cmp : ∀ args w, (callFunc 115 args).run Tryz.prog w = .ok (.enter 115 args) w := enters_of Tryz.func115 (by kernel_rfl) rfl

set_option maxHeartbeats 1000000 in
/-- slices.SortFunc by nodeset.Compare, over a row of the call's own that holds sets. -/
theorem sortN_run (l : List Nat) (hl : ∀ t ∈ l, t < 1024) (hd : l.Nodup) (v : Value) (B : Nat) (w : World) (hlen : l.length ≤ 100000) (hown : w.ownsRow B 3 1 v l.length ((zs l).map (Value.int .i64))) :
    Calls Tryz.prog 114 #[v, .func (.func 115) #[] #[]] w fun e w' => e = .returned (.tuple #[]) ∧ ∃ m : List Nat, m.Perm l ∧ Asc m ∧ m.length = l.length ∧ w'.ownsRow B 3 1 v l.length ((zs m).map (Value.int .i64)) ∧ w.grownBy w' v.ownBlock := by
  obtain ⟨m, hm, hp, ha⟩ := sorted_nat l hl hd
  have hlm := hp.length_eq
  rcases hown.2 with ⟨rfl, h0⟩ | ⟨g, cap, cur, rfl, hB, hcell, hnc, hcm, hsz, htk⟩
  · obtain rfl := List.eq_nil_of_length_eq_zero h0
    have h := AnyF.slices_SortFunc_none (P := Tryz.prog) (ρ := sortL_ren) { sortL with } none 0 (.func (.func 115) #[] #[]) w
    refine (show Calls Tryz.prog 114 _ _ _ from h).mono ?_
    rintro e w' ⟨rfl, rfl⟩
    obtain rfl := List.eq_nil_of_length_eq_zero (show m.length = 0 by rw [hlm]; rfl)
    exact ⟨rfl, [], hp, ha, rfl, hown, World.grownBy.refl _ _⟩
  · have hg : g < w.heap.size := (Array.getElem?_eq_some_iff.1 hcell).1
    have hH : Holds (Value.int .i64) w g 0 (zs l).toArray := holds_of_blockI hcell (by rw [zs_len]; simpa using htk)
    have hS := Any.slices_SortFunc_total sortL (Value.int .i64) (fun _ => rfl) cmpN swoN 115 #[] g 0 cap (zs l).toArray w enters_cmp
      (fun mm os dk hs x y => (pcompare_run x y _).mono fun _ _ ⟨he, os', hw⟩ => ⟨he, 0, os', by rw [hw]; rfl⟩) hH hg (by simp [zs_len]; omega) totN
    rw [show (zs l).toArray.size = l.length by simp [zs_len], show (zs l).toArray.toList = zs l from rfl, hm] at hS
    refine (show Calls Tryz.prog 114 _ _ _ from hS).mono ?_
    rintro e w' ⟨rfl, n, os, rfl⟩
    have h1 := ownsRow_sortedI (w := w) (base := B) (g := g) (cap := cap) (n := n) (e := 3) (os := os) (cur := cur) (ss := zs l) (ts := zs m) (by rw [zs_len, zs_len, hlm]) hB hcell (by rw [zs_len]; exact hnc) hcm hsz
    rw [zs_len] at h1
    exact ⟨rfl, m, hp, ha, hlm, h1, grownBy_sortedI _⟩

end Go.Proofs.YtacpfcckilnbfaaGreat

namespace Go.Proofs.YtacpfcckilnbfaaGreat
set_option linter.unusedVariables false
set_option linter.unusedSimpArgs false
open Go.RowKit

/-- The sets below 2^n of which p holds, in order. -/
def IsFound (n : Nat) (p : Nat → Bool) (l : List Nat) : Prop := Asc l ∧ (∀ t, t ∈ l ↔ (t < 2 ^ n ∧ p t = true)) ∧ l.length ≤ 1024

set_option maxRecDepth 100000 in
set_option maxHeartbeats 4000000 in
theorem findG_run (G tb n : Nat) (hn : n ≤ 10) (p : Nat → Bool) (w : World) (eg : ∀ args w, (callFunc G args).run Tryz.prog w = .ok (.enter G args) w)
    (hcl : ∀ k : Nat, k < 2 ^ n → ∀ W, Below w.heap.size w W → Calls Tryz.prog G #[.int .i64 (k : Int), .pointer (some ⟨tb, 0, none⟩)] W fun e w' => e = .returned (.bool (p k)) ∧ Below W.heap.size W w') :
    Calls Tryz.prog 89 #[.int .i64 (n : Int), .func (.func G) #[] #[.pointer (some ⟨tb, 0, none⟩)]] w fun e w' => ∃ v l, e = .returned v ∧ w'.ownsRow w.heap.size 3 1 v l.length ((zs l).map (Value.int .i64)) ∧ IsFound n p l ∧ Below w.heap.size w w' := by
  obtain ⟨i0, hin, hz0, hz1, hz2⟩ := info_parts infoInt
  have hp := pow11 n (by omega)
  have h10 : 2 ^ n ≤ 2 ^ 10 := Nat.pow_le_pow_right (by omega) hn
  have HF := Lib.hid (show ∀ l, IsFound n p l ↔ (Asc l ∧ (∀ t, t ∈ l ↔ (t < 2 ^ n ∧ p t = true)) ∧ l.length ≤ 1024) from fun _ => Iff.rfl)
  have hn0 : (0 : Int) ≤ (n : Int) := by omega
  have hn64 : ¬ (64 : Int) ≤ (n : Int) := by omega
  obtain ⟨N, hN⟩ : ∃ N, 2 ^ n = N := ⟨_, rfl⟩
  rw [hN] at hp h10 HF hcl
  clear hN
  have HCL := Lib.hid hcl
  clear hcl
  go_enter Tryz.func89, Tryz.ntmps89
  go_wp2_with fail
  go_loopw [5, 9] (fun v t W => ∃ (k : Nat) (l : List Nat) (vv : Value), k ≤ N ∧ v = vv ∧ t = .int .i64 k ∧ W.ownsRow w.heap.size 3 1 vv l.length ((zs l).map (Value.int .i64)) ∧ Hid (l = (List.range k).filter p) ∧ Hid (Below w.heap.size w W)) (fun _ t _ => N - (intOf t).toNat)
  case atStart => exact ⟨0, [], .slice none 0 0, by omega, rfl, rfl, World.ownsRow_nil _ _ _ _, Lib.hid rfl, Lib.hid (bref _)⟩
  case round =>
    obtain ⟨k, l, v, hk, hv, rfl, hown, hL, hB⟩ := hrel
    replace hv := hv.symm
    subst hv
    have hlen : l.length ≤ k := by rw [hL.out]; exact Nat.le_trans (List.length_filter_le _ _) (by simp)
    have HOWN := Lib.hid hown
    by_cases hlt : k < N
    · have hownk := hown
      clear hown
      go_wp2_with fail
      refine (HCL.out k hlt _ hB.out).mono ?_
      rintro e W5 ⟨rfl, hb5⟩
      have HB5 := Lib.hid (bstep hB.out hb5)
      have HO5 := Lib.hid (show W5.ownsRow w.heap.size 3 1 v l.length ((zs l).map (Value.int .i64)) from by
        refine ⟨hownk.1, ?_⟩
        rcases hownk.2 with h2 | ⟨gg, cap, cur, e1, e2, e3, e4⟩
        · exact .inl h2
        · exact .inr ⟨gg, cap, cur, e1, e2, (hb5.block gg (Array.getElem?_eq_some_iff.1 e3).1).trans e3, e4⟩)
      have hs5 := hb5.size
      have hs0 := hB.out.size
      clear hb5 hownk
      rcases (show p k = false ∨ p k = true by cases p k <;> simp) with hpk | hpk
      · have HL2 := Lib.hid (show l = (List.range (k + 1)).filter p by rw [List.range_succ, List.filter_append, ← hL.out]; simp [hpk])
        have HP := Lib.hid hpk
        clear hpk
        rw [HP.out]
        go_wp2_with fail
        go_roundw
        case rel => exact ⟨k + 1, l, _, by omega, rfl, by go_num, HO5.out, HL2, HB5⟩
        case measure => simp [intOf]; omega
      · have HL2 := Lib.hid (show l ++ [k] = (List.range (k + 1)).filter p by rw [List.range_succ, List.filter_append, ← hL.out]; simp [hpk])
        have HP := Lib.hid hpk
        have hzl := zs_len l
        have hown := HO5.out
        clear hpk
        rw [HP.out]
        go_wp2_with (at_builtin; refine wpList_append_own _ rfl _ _ 22 rfl w.heap.size 3 i0 (.int .i64 0) 1 8 Tryz.underlying22 hin hz0 hz1 hz2 rfl (by decide) _ _ _ rfl (hown.alloc _) ⟨W5.heap.size, 0, none⟩ 1 1 [.int .i64 (k : Int)] rfl rfl (cell_one_new _ _ _) (fun u hu => by simp at hu; subst hu; rfl) (by unfold maxLen; omega) (by omega) (by simp; omega) ?_; intro v' w1 hown' hgrow hnil)
        have HO := Lib.hid (own_snocZ hown')
        have HB4 := Lib.hid (Below.grown (balloc HB5.out (.cells #[.int .i64 (k : Int)] 3)) hgrow (by simp; omega) (fun j hj => (hown.lt j hj).1))
        clear hown' hgrow hnil hown
        go_roundw
        case rel => exact ⟨k + 1, l ++ [k], _, by omega, rfl, by go_num, HO.out, HL2, HB4⟩
        case measure => simp [intOf]; omega
    · obtain rfl : k = N := by omega
      have hmem : ∀ t ∈ l, t < 1024 := fun t ht => by
        rw [hL.out] at ht
        have := List.mem_range.1 (List.mem_filter.1 ht).1
        omega
      have hnd : l.Nodup := by rw [hL.out]; exact List.nodup_iff_pairwise_ne.2 ((List.nodup_iff_pairwise_ne.1 List.nodup_range).filter _)
      have HS := Lib.hid (fun W => sortN_run l hmem hnd v w.heap.size W (by omega))
      have HLT := Lib.hid (fun j hj => (hown.lt j hj).1)
      obtain ⟨A, c, hv⟩ := own_slice hown
      clear hown hmem hnd
      subst hv
      go_wp2_with fail
      refine (HS.out _ HOWN.out).mono ?_
      rintro e w2 ⟨rfl, m, hpm, hasc, hml, hown2, hg2⟩
      have HR := Lib.hid (show w2.ownsRow w.heap.size 3 1 (.slice A l.length c) m.length ((zs m).map (Value.int .i64)) ∧ IsFound n p m ∧ Below w.heap.size w w2 from
        ⟨by rw [hml]; exact hown2, (HF.out m).2 ⟨hasc, fun t => by rw [hpm.mem_iff, hL.out, List.mem_filter, List.mem_range], by omega⟩, Below.grown hB.out hg2 hB.out.size (fun j hj => HLT.out j hj)⟩)
      clear hown2 hg2 hpm hasc hml
      go_wp2_with fail
      go_ret
      exact ⟨_, m, rfl, HR.out⟩

end Go.Proofs.YtacpfcckilnbfaaGreat

namespace Go.Proofs.YtacpfcckilnbfaaGreat
set_option linter.unusedVariables false
set_option linter.unusedSimpArgs false
open Go.RowKit

/-- The sets below 2^n of which p holds, in order. -/
def IsFind (n : Nat) (p : Nat → Bool) (l : List Nat) : Prop := Asc l ∧ (∀ t, t ∈ l ↔ (t < 2 ^ n ∧ p t = true)) ∧ l.length ≤ 1024

theorem subB_iff {t s : Nat} : subB t s = true ↔ t &&& s = t := by unfold subB; simp

theorem subB_bit {t s k : Nat} (h : subB t s = true) (hk : t.testBit k = true) : s.testBit k = true := by
  rw [subB_iff] at h
  rw [← h, Nat.testBit_and, Bool.and_eq_true] at hk
  exact hk.2

/-- The sets of which p holds and of which no proper subset is such a set, in order. -/
def IsLeast (p : Nat → Bool) (l : List Nat) : Prop := Asc l ∧ (∀ t, t ∈ l ↔ (t < 1024 ∧ p t = true ∧ ∀ y, p y = true → subB y t = true → y = t)) ∧ l.length ≤ 1024

/-- Two lists in order with the same sets are one. -/
theorem asc_ext : ∀ {l m : List Nat}, Asc l → Asc m → (∀ t, t ∈ l ↔ t ∈ m) → l = m
  | [], [], _, _, _ => rfl
  | [], b :: m, _, _, h => by have := (h b).2 (by simp); cases this
  | a :: l, [], _, _, h => by have := (h a).1 (by simp); cases this
  | a :: l, b :: m, h1, h2, h => by
    obtain ⟨ha, hl⟩ := List.pairwise_cons.1 h1
    obtain ⟨hb, hm⟩ := List.pairwise_cons.1 h2
    have e : a = b := by
      rcases List.mem_cons.1 ((h a).1 (by simp)) with h3 | h3
      · exact h3
      · rcases List.mem_cons.1 ((h b).2 (by simp)) with h4 | h4
        · exact h4.symm
        · have := hb a h3; have := ha b h4; omega
    subst e
    rw [asc_ext hl hm (fun t => by
      have h3 := h t
      rw [List.mem_cons, List.mem_cons] at h3
      constructor
      · intro ht
        rcases h3.1 (.inr ht) with h4 | h4
        · subst h4; have := ha t ht; omega
        · exact h4
      · intro ht
        rcases h3.2 (.inr ht) with h4 | h4
        · subst h4; have := hb t ht; omega
        · exact h4)]

/-- The sets of a list of ints. -/
def pz (z : List Int) (t : Nat) : Bool := decide (t < 1024) && decide ((t : Int) ∈ z)

/-- Is it a least one? -/
noncomputable def leB (p : Nat → Bool) (t : Nat) : Bool := @decide (p t = true ∧ ∀ y, p y = true → subB y t = true → y = t) (Classical.propDecidable _)

end Go.Proofs.YtacpfcckilnbfaaGreat

namespace Go.Proofs.YtacpfcckilnbfaaGreat
set_option linter.unusedVariables false
set_option linter.unusedSimpArgs false
open Go.RowKit

def cmpR (s t : Nat) : Int := if keyC s < keyC t then -1 else if s = t then 0 else 1

theorem keyC_lt (s t : Nat) (hs : s < 1024) (ht : t < 1024) : keyC s < keyC t ↔ (popc s < popc t ∨ (popc s = popc t ∧ s < t)) := by
  unfold keyC
  omega

end Go.Proofs.YtacpfcckilnbfaaGreat

namespace Go.Proofs
open Go.Shelf
def Tryz.lays125_ren : Go.Shelf.Ren := ⟨fun | 125 => 90 | 128 => 116 | 129 => 117 | n => n, fun | 46 => 103 | 3 => 3 | 51 => 117 | 53 => 119 | 4 => 4 | 5 => 5 | 9 => 9 | n => n, fun | n => n⟩
theorem Tryz.lays125 : Go.Proofs.Lays.n125 Tryz.prog Tryz.lays125_ren := {
  mixed := by kernel_rfl
  f125 := Tryz.func90.trans (congrArg some (by kernel_rfl))
  f128 := Tryz.func116.trans (congrArg some (by kernel_rfl))
  f129 := Tryz.func117.trans (congrArg some (by kernel_rfl))
  t3 := Tryz.underlying3
  a3 := Tryz.isAgg3
  z3 := Tryz.sizeOf3
  v3 := Tryz.zeroValue3
  t4 := Tryz.underlying4
  a4 := Tryz.isAgg4
  z4 := Tryz.sizeOf4
  v4 := Tryz.zeroValue4
  t5 := Tryz.underlying5
  a5 := Tryz.isAgg5
  z5 := Tryz.sizeOf5
  v5 := Tryz.zeroValue5
  t9 := Tryz.underlying9
  a9 := Tryz.isAgg9
  z9 := Tryz.sizeOf9
  v9 := Tryz.zeroValue9
  t46 := Tryz.underlying103
  a46 := Tryz.isAgg103
  z46 := Tryz.sizeOf103
  v46 := Tryz.zeroValue103
  t51 := Tryz.underlying117
  a51 := Tryz.isAgg117
  z51 := Tryz.sizeOf117
  v51 := Tryz.zeroValue117
  t53 := Tryz.underlying119
  a53 := Tryz.isAgg119
  z53 := Tryz.sizeOf119
  v53 := Tryz.zeroValue119 }
/-- bits.Len: "Len returns the minimum number of bits required to represent x; the result is 0 for x == 0.": IT RETURNS 'Lib.bitLen x'; the world is as it was. (A uint has 64 bits in the model.) ITS CALLEE bits.Len64 IS MET BY ITS OWN CONTRACT OFF THE SHELF (lay that first). (LAID: no walk: one application.) -/
theorem Tryz.bits_Len (x : Int) (w : World) (h0 : 0 ≤ x) (h1 : x ≤ 18446744073709551615) :
    Calls Tryz.prog 90 #[.int .u64 x] w fun e w' => e = .returned (.int .i64 (Lib.bitLen x.toNat)) ∧ w' = w := Any.bits_Len Tryz.lays125 x w h0 h1
end Go.Proofs

namespace Go.Proofs.YtacpfcckilnbfaaGreat
set_option linter.unusedVariables false
set_option linter.unusedSimpArgs false
open Go.RowKit

set_option maxRecDepth 100000 in
theorem bl_fact (s : Nat) (hs : s < 1024) : s < 2 ^ Lib.bitLen s ∧ Lib.bitLen s ≤ 10 := by
  have all : ∀ s : Fin 1024, s.val < 2 ^ Lib.bitLen s.val ∧ Lib.bitLen s.val ≤ 10 := by decide +kernel
  exact all ⟨s, hs⟩

theorem sub_bits {t s : Nat} : subB t s = true ↔ ∀ k, t.testBit k = true → s.testBit k = true := by
  constructor
  · exact fun h k hk => subB_bit h hk
  · intro h
    rw [subB_iff]
    apply Nat.eq_of_testBit_eq
    intro k
    rw [Nat.testBit_and]
    cases hk : t.testBit k
    · rfl
    · rw [h k hk]; rfl

theorem sub1_run (sb s t : Nat) (ht : t < 1024) (hs : s < 1024) (w : World) (h : w.cell? ⟨sb, 0, none⟩ = some (.int .i64 (s : Int))) :
    Calls Tryz.prog 91 #[.int .i64 (t : Int), .pointer (some ⟨sb, 0, none⟩)] w fun e w' => e = .returned (.bool (subB t s)) ∧ Below w.heap.size w w' := by
  have HA := Lib.hid (andnot_sub t s ht hs)
  go_enter Tryz.func91, Tryz.ntmps91
  go_wp2_with fail
  go_ret
  exact ⟨by rw [← HA.out]; rfl, bref _⟩

theorem enters_s1 : ∀ args w, (callFunc 91 args).run Tryz.prog w = .ok (.enter 91 args) w := enters_of Tryz.func91 (by kernel_rfl) rfl

theorem own_low {W : World} {B B' : Nat} {v : Value} {n : Nat} {vs : List Value} (h : W.ownsRow B 3 1 v n vs) (hB : B' ≤ B) : W.ownsRow B' 3 1 v n vs := by
  refine ⟨h.1, ?_⟩
  rcases h.2 with h2 | ⟨gg, cap, cur, e1, e2, e3, e4⟩
  · exact .inl h2
  · exact .inr ⟨gg, cap, cur, e1, Nat.le_trans hB e2, e3, e4⟩

set_option maxRecDepth 100000 in
set_option maxHeartbeats 4000000 in
theorem psubs_run (s : Nat) (hs : s < 1024) (w : World) :
    Calls Tryz.prog 48 #[.int .i64 (s : Int)] w fun e w' => ∃ v l n, e = .returned v ∧ w'.ownsRow w.heap.size 3 1 v l.length ((zs l).map (Value.int .i64)) ∧ n ≤ 10 ∧ s < 2 ^ n ∧ IsFound n (fun t => subB t s) l ∧ Below w.heap.size w w' := by
  have hsv := Lib.hid (show setB (s : Int) = true from setB_iff.2 ⟨by omega, by omega⟩)
  have hb := balloc (bref w) (.cells #[.int .i64 (s : Int)] 3)
  have k1 : (w.alloc (.cells #[.int .i64 (s : Int)] 3)).cell? ⟨w.heap.size, 0, none⟩ = some (.int .i64 (s : Int)) := cell_of_row _ _ 0 _ _ (0, 0) (heap_alloc_new _ _)
  have hz : (w.alloc (.cells #[.int .i64 (s : Int)] 3)).heap.size = w.heap.size + 1 := by simp
  have HBL := Lib.hid (bl_fact s hs)
  have HFG := Lib.hid (fun n hn p W hcl => findG_run 91 w.heap.size n hn p W enters_s1 hcl)
  have HS1 := Lib.hid (fun t ht W h => sub1_run w.heap.size s t ht hs W h)
  go_enter Tryz.func48, Tryz.ntmps48
  go_upto_region 1 with fail
  generalize w.alloc (.cells #[.int .i64 (s : Int)] 3) = W1 at *
  generalize hg : w.heap.size = g at *
  have HG := Lib.hid hg
  clear hg
  go_wp2_with fail
  refine (setValid_run _ _).mono ?_
  rintro e w2 ⟨rfl, rfl⟩
  rw [hsv.out]
  have hw : IntKind.u64.wrap (s : Int) = (s : Int) := by rw [IntKind.wrap_u64]; omega
  go_wp2_with fail
  refine (Tryz.bits_Len _ _ (by omega) (by omega)).mono ?_
  rintro e w3 ⟨rfl, rfl⟩
  rw [show ((s : Int)).toNat = s from rfl]
  obtain ⟨hb1, hb2⟩ := HBL.out
  generalize Lib.bitLen s = n at *
  go_wp2_with fail
  refine (HFG.out n hb2 (fun t => subB t s) w3 (fun k hk W hB => HS1.out k (Nat.lt_of_lt_of_le hk (Nat.pow_le_pow_right (n := 2) (by omega) hb2)) W ((hB.cell (cell_lt k1)).trans k1))).mono ?_
  rintro e w4 ⟨v, l, rfl, ho, hf, hb4⟩
  have HO := Lib.hid (own_low (B' := g) ho (by omega))
  have HF := Lib.hid hf
  have HB := Lib.hid hb1
  have HB4 := Lib.hid (hb.trans (hb4.mono (show g ≤ w3.heap.size by omega)))
  clear ho hf hb1 hb4 k1 hb
  go_wp2_with fail
  go_ret
  rw [HG.out]
  exact ⟨v, l, n, rfl, HO.out, hb2, HB.out, HF.out, HB4.out⟩

end Go.Proofs.YtacpfcckilnbfaaGreat

namespace Go.Proofs.YtacpfcckilnbfaaGreat
set_option linter.unusedVariables false
set_option linter.unusedSimpArgs false
open Go.RowKit

def GoodB (s : Nat) (ls hs : List Mem) (b : Nat) : Prop := Sub s b ∧ AvT hs b ∧ InT (D3.delM b ls)

def AllOf (s : Nat) (ls hs : List Mem) (l : List Nat) (k : Nat) (L : List Nat) : Prop := L.Sublist (l.take k) ∧ ∀ b, b ∈ L ↔ b ∈ l.take k ∧ GoodB s ls hs b

theorem AllOf.zero (s : Nat) (ls hs : List Mem) (l : List Nat) : AllOf s ls hs l 0 [] := ⟨by simp, fun b => by simp⟩

theorem AllOf.skip {s : Nat} {ls hs : List Mem} {l L : List Nat} {k b : Nat} (h : AllOf s ls hs l k L) (hb : l[k]? = some b) (hn : ¬ GoodB s ls hs b) : AllOf s ls hs l (k + 1) L := by
  unfold AllOf
  rw [List.take_add_one, hb]
  refine ⟨h.1.trans (List.sublist_append_left _ _), fun x => ?_⟩
  rw [h.2 x, List.mem_append]
  constructor
  · rintro ⟨h1, h2⟩; exact ⟨.inl h1, h2⟩
  · rintro ⟨h1 | h1, h2⟩
    · exact ⟨h1, h2⟩
    · have : x = b := by simpa using h1
      rw [this] at h2; exact absurd h2 hn

theorem AllOf.add {s : Nat} {ls hs : List Mem} {l L : List Nat} {k b : Nat} (h : AllOf s ls hs l k L) (hb : l[k]? = some b) (hn : GoodB s ls hs b) : AllOf s ls hs l (k + 1) (L ++ [b]) := by
  unfold AllOf
  rw [List.take_add_one, hb]
  refine ⟨List.Sublist.append h.1 (by simp), fun x => ?_⟩
  rw [List.mem_append, h.2 x, List.mem_append]
  constructor
  · rintro (⟨h1, h2⟩ | h1)
    · exact ⟨.inl h1, h2⟩
    · have : x = b := by simpa using h1
      rw [this]; exact ⟨.inr (by simp), hn⟩
  · rintro ⟨h1 | h1, h2⟩
    · exact .inl ⟨h1, h2⟩
    · exact .inr (by simpa using h1)

/-- What All returns. -/
def AllIs (s : Nat) (ls hs : List Mem) (L : List Nat) : Prop := Asc L ∧ L.length ≤ 1024 ∧ ∀ b, b ∈ L ↔ b < 2 ^ ls.length ∧ GoodB s ls hs b

theorem AllOf.done {s n n' : Nat} {ls hs : List Mem} {l L : List Nat} (hn : ls.length = n) (hl : s < 2 ^ n) (hn' : 2 ^ n - 1 < 2 ^ n') (hf : IsFound n' (fun t => subB t (2 ^ n - 1)) l) (h : AllOf s ls hs l l.length L) : AllIs s ls hs L := by
  obtain ⟨h1, h2⟩ := h
  rw [List.take_length] at h1 h2
  refine ⟨hf.1.sublist h1, Nat.le_trans h1.length_le hf.2.2, fun b => ?_⟩
  rw [h2 b, hf.2.1 b, hn]
  constructor
  · rintro ⟨⟨_, h3⟩, h4⟩
    refine ⟨Nat.lt_pow_two_of_testBit _ (fun k hk => ?_), h4⟩
    cases hb : b.testBit k
    · rfl
    · have h5 := sub_bits.1 h3 k hb
      rw [Nat.testBit_two_pow_sub_one, decide_eq_true_iff] at h5
      omega
  · rintro ⟨h3, h4⟩
    refine ⟨⟨by omega, sub_bits.2 (fun k hk => ?_)⟩, h4⟩
    rw [Nat.testBit_two_pow_sub_one, decide_eq_true (lt_bit h3 hk)]

theorem minS_zero_iff {s b : Nat} : minS s b = 0 ↔ Sub s b := by
  constructor
  · intro h k hk
    have := minS_bit s b k
    rw [h, Nat.zero_testBit, hk] at this
    cases hb : b.testBit k
    · rw [hb] at this; cases this
    · rfl
  · intro h
    apply Nat.eq_of_testBit_eq
    intro k
    rw [minS_bit, Nat.zero_testBit]
    cases hk : s.testBit k
    · rfl
    · rw [h k hk]; rfl

theorem zs_getD {l : List Nat} {k b : Nat} (h : l[k]? = some b) : (zs l).getD k 0 = (b : Int) := by
  unfold zs
  rw [List.getD_eq_getElem?_getD, List.getElem?_map, h]; rfl

set_option maxRecDepth 100000 in
set_option maxHeartbeats 4000000 in
theorem dpall_run (P Q : Nat → Prop) (ls hs : List Mem) (vl vh : Value) (s : Nat) (hsx : s < 2 ^ ls.length) (w : World) (hl : ls.length ≤ 7) (h1 : MemsAt P 3 w vl ls) (h2 : MemsAt Q 3 w vh hs) (hp : PairM ls hs) :
    Calls Tryz.prog 15 #[.agg #[vl], .agg #[vh], .int .i64 (s : Int)] w fun e w' => (∃ (v : Value) (L : List Nat), e = .returned (.tuple #[v, .int .i64 0]) ∧ NodesAt (fun b => w.heap.size ≤ b) w' v (zs L) ∧ AllIs s ls hs L) ∧ Below w.heap.size w w' := by
  have HS := Lib.hid hsx
  clear hsx
  obtain ⟨A, c, rfl⟩ := h1.slice
  obtain ⟨B, d, rfl⟩ := h2.slice
  have hlen := hp.len
  have hokl := hp.okl
  have hokh := hp.okh
  have hdec := hp.decl
  have HDL := Lib.hid (fun W (h : MemsAt P 3 W (.slice A ls.length c) ls) => declared_run P 3 ls _ W (by omega) h)
  have HDH := Lib.hid (fun W (h : MemsAt Q 3 W (.slice B hs.length d) hs) => declared_run Q 3 hs _ W (by omega) h)
  rw [hdec] at HDH
  rw [hlen] at h2 HDH hokh ⊢
  obtain ⟨n, hn⟩ : ∃ n, ls.length = n := ⟨_, rfl⟩
  have HN := Lib.hid hn
  have HNH := Lib.hid hlen
  rw [hn] at HNH
  have HD := Lib.hid (fun k (h : (declS ls ls.length).testBit k = true) => declS_bit h)
  have HDM := Lib.hid (fun k (h : (declS ls ls.length).testBit k = true) => declS_memD h)
  have hDl : declS ls ls.length < 1024 := declS_lt ls _ (by omega)
  generalize declS ls ls.length = D at HDL HDH hDl HD HDM
  rw [hn] at h1 h2 HDL HDH hokl hokh hl HD ⊢
  have HP := Lib.hid hp
  have HOL := Lib.hid hokl
  have HOH := Lib.hid hokh
  have HPA := Lib.hid (PA.new h1 h2)
  clear h1 h2 hp hokl hokh hn hdec hlen
  go_enter Tryz.func15, Tryz.ntmps15
  go_upto_region 1 with fail
  generalize ((w.alloc (.cells #[.slice A n c] 27)).alloc (.cells #[.slice B n d] 27)) = W1 at *
  generalize w.heap.size = g at HPA ⊢
  have l0 := HPA.out.cs.1
  have h0 := HPA.out.cs.2.1
  go_wp2_with fail
  refine (dpvpair_run P Q ls hs _ _ s HS.out _ (by rw [HN.out]; exact hl) HPA.out.ml HPA.out.mh HP.out).mono ?_
  rintro e W1x ⟨rfl, hbx⟩
  have HPA1 := Lib.hid (HPA.out.to hbx)
  clear hbx l0 h0
  have l1 := HPA1.out.cs.1
  have h1 := HPA1.out.cs.2.1
  go_wp2_with fail
  refine (dpmembers_run A n c (by omega) _).mono ?_
  rintro e W2x ⟨rfl, hbx⟩
  have HPA2 := Lib.hid (HPA1.out.to hbx)
  clear hbx l1 h1
  have l2 := HPA2.out.cs.1
  have h2 := HPA2.out.cs.2.1
  have hp10 : 2 ^ n ≤ 2 ^ 10 := Nat.pow_le_pow_right (by omega) (by omega)
  have HPM := Lib.hid (fun W => psubs_run (2 ^ n - 1) (by omega) W)
  have HSN := Lib.hid (show s < 2 ^ n by have h := HS.out; rw [HN.out] at h; exact h)
  have hs10 : s < 1024 := by have := HSN.out; omega
  obtain ⟨M, hM⟩ : ∃ M, 2 ^ n - 1 = M := ⟨_, rfl⟩
  have HM := Lib.hid hM
  rw [hM] at HPM ⊢
  clear hM hp10
  go_wp2_with fail
  refine (HPM.out _).mono ?_
  rintro e W6 ⟨vr, l, n', rfl, hown, hn10', hsn', hfound, hb6⟩
  have HPA6 := Lib.hid (HPA2.out.to hb6)
  have HF := Lib.hid (show ∀ L, AllOf s ls hs l l.length L → AllIs s ls hs L from fun L h => AllOf.done (n := n) (n' := n') HN.out HSN.out (by rw [HM.out]; exact hsn') (by rw [HM.out]; exact hfound) h)
  have HFB := Lib.hid (show ∀ b, b ∈ l → b < 2 ^ n from fun b hb => by
    have h := (((HF.out (l.filter (fun x => false)) : _ → _) |> fun _ => hfound.2.1 b).1 hb).2
    refine Nat.lt_pow_two_of_testBit _ (fun k hk => ?_)
    cases hbk : b.testBit k
    · rfl
    · have h5 := sub_bits.1 h k hbk
      rw [← HM.out, Nat.testBit_two_pow_sub_one, decide_eq_true_iff] at h5
      omega)
  have hlen := hfound.2.2
  have hnv := NodesAt.of_ownZ hown
  obtain ⟨Nn, cn, rfl⟩ := hnv.slice
  have hzl : (zs l).length = l.length := by unfold zs; simp
  rw [hzl] at hnv ⊢
  obtain ⟨m, hm⟩ : ∃ m, l.length = m := ⟨_, rfl⟩
  rw [hm] at hnv hlen HF ⊢
  have HNV := Lib.hid hnv
  have HML := Lib.hid hm
  obtain ⟨i0, hin, hz0, hz1, hz2⟩ := info_parts infoInt
  clear hb6 hnv hm hown hfound hsn' hn10' hzl l2 h2 HPA2 HPA1 HPA HPM
  go_wp2_with fail
  go_loopw [9, 23] (fun u t W => ∃ (k : Nat) (v : Value) (L : List Nat), k ≤ m ∧ u = v ∧ t = .int .i64 (k : Int) ∧ W.ownsRow W6.heap.size 3 1 v L.length ((zs L).map (Value.int .i64)) ∧ Hid (AllOf s ls hs l k L) ∧ Hid (Below W6.heap.size W6 W)) (fun _ t _ => m - (intOf t).toNat)
  case atStart => exact ⟨0, _, [], Nat.zero_le _, rfl, rfl, World.ownsRow_nil _ _ _ _, Lib.hid (AllOf.zero _ _ _ _), Lib.hid (bref _)⟩
  case round =>
    obtain ⟨k, v, L, hk, hv, rfl, hown, hAll, hBe⟩ := hrel
    subst hv
    have hszb := hBe.out.size
    have hLl : L.length ≤ k := by have := hAll.out.1.length_le; rw [List.length_take] at this; omega
    by_cases hlt : k < m
    · obtain ⟨An, cn', hAn, hcl⟩ := HNV.out
      injection hAn with q1 q2 q3
      subst q1
      obtain ⟨bn, on, hbn, _, hcn⟩ := hcl k (by unfold zs; rw [List.length_map, HML.out]; exact hlt)
      subst hbn
      obtain ⟨b, hb⟩ : ∃ b, l[k]? = some b := ⟨_, List.getElem?_eq_getElem (by rw [HML.out]; exact hlt)⟩
      rw [zs_getD hb] at hcn
      have hb2 := HFB.out b (List.mem_of_getElem? hb)
      have hp10 : 2 ^ n ≤ 2 ^ 10 := Nat.pow_le_pow_right (by omega) (by omega)
      have hb10 : b < 1024 := by omega
      have HB2 := Lib.hid (show b < 2 ^ ls.length by rw [HN.out]; exact hb2)
      clear hb2 hp10
      have n0 : wr.cell? ⟨bn, on + k, none⟩ = some (.int .i64 (b : Int)) := (hBe.out.cell (cell_lt hcn)).trans hcn
      have hpa := HPA6.out.to hBe.out
      have l0 := hpa.cs.1
      have h0 := hpa.cs.2.1
      have HPAR := Lib.hid hpa
      have han : bits .andNot .i64 (s : Int) (b : Int) = ((minS s b : Nat) : Int) := andNot_nat s b hs10 hb10
      have HZ := Lib.hid (minS_zero_iff (s := s) (b := b))
      generalize minS s b = z at han HZ
      have HB := Lib.hid hb
      have HOWN := Lib.hid hown
      clear hcl hcn hpa q2 q3 hb
      by_cases hz : z = 0
      · have HSU := Lib.hid (HZ.out.1 hz)
        subst hz
        go_wp2_with fail
        refine (dpis_run P Q ls hs _ _ b HB2.out _ (by rw [HN.out]; exact hl) HPAR.out.ml HPAR.out.mh HP.out).mono ?_
        rintro e W7 ⟨⟨x, rfl, hx⟩, hb7⟩
        have HX := Lib.hid hx
        have HB7 := Lib.hid (bstep hBe.out hb7)
        have hown7 := own_keepG HOWN.out (fun j _ _ hl => hb7.block j hl)
        have HOWN7 := Lib.hid hown7
        have hsz7 := HB7.out.size
        clear hx n0 l0 h0 hown
        cases x
        · have HA := Lib.hid (hAll.out.skip HB.out (fun h => by have := HX.out.2 h.2; cases this))
          clear hb7 hown7
          go_wp2_with fail
          go_roundw
          case rel => exact ⟨k + 1, _, L, by omega, rfl, by go_num, HOWN7.out, HA, HB7⟩
          case measure => simp [intOf]; omega
        · have HA := Lib.hid (hAll.out.add HB.out ⟨HSU.out, HX.out.1 (by first | rfl | trivial)⟩)
          clear hb7
          go_wp2_with (at_builtin; refine wpList_append_own _ rfl _ _ 22 rfl W6.heap.size 3 i0 (.int .i64 0) 1 8 Tryz.underlying22 hin hz0 hz1 hz2 rfl (by decide) _ _ _ rfl (hown7.alloc _) ⟨W7.heap.size, 0, none⟩ 1 1 [.int .i64 (b : Int)] rfl rfl (cell_one_new _ _ _) (fun u hu => by simp at hu; subst hu; rfl) (by unfold maxLen; omega) (by omega) (by simp; omega) ?_; intro v' w1 hown' hgrow hnil)
          have HO := Lib.hid (own_snoc hown')
          have HB4 := Lib.hid (Below.grown (balloc HB7.out (.cells #[.int .i64 (b : Int)] 3)) hgrow (by simp; omega) (fun j hj => (hown7.lt j hj).1))
          clear hown' hgrow hnil hown7
          go_roundw
          case rel => exact ⟨k + 1, _, L ++ [b], by omega, rfl, by go_num, by simpa [zs] using HO.out, HA, HB4⟩
          case measure => simp [intOf]; omega
      · have hzi : ¬ ((z : Nat) : Int) = 0 := by omega
        have HA := Lib.hid (hAll.out.skip HB.out (fun h => hz (HZ.out.2 h.1)))
        clear hown
        go_wp2_with fail
        go_roundw
        case rel => exact ⟨k + 1, _, L, by omega, rfl, by go_num, HOWN.out, HA, hBe⟩
        case measure => simp [intOf]; omega
    · obtain rfl : k = m := by omega
      have HBF := Lib.hid (HPA6.out.to hBe.out).bel
      have HAL := Lib.hid (HF.out L hAll.out)
      have hge : w.heap.size ≤ W6.heap.size := HPA6.out.bel.size
      have HNF := Lib.hid ((NodesAt.of_ownZ hown).both (w' := wr) (Q := fun b => w.heap.size ≤ b) (fun _ _ _ => rfl) (fun q _ hq => by have : W6.heap.size ≤ q := hq; show w.heap.size ≤ q; omega))
      clear hown
      go_wp2_with fail
      go_ret2
      exact ⟨⟨_, L, rfl, HNF.out, HAL.out⟩, HBF.out⟩

end Go.Proofs.YtacpfcckilnbfaaGreat

namespace Go.Proofs.YtacpfcckilnbfaaGreat
set_option linter.unusedVariables false
set_option linter.unusedSimpArgs false
open Go.RowKit

/-- Can member k not do without s? -/
def lackB (ms : List Mem) (s k : Nat) : Bool := !s.testBit k && (!(ms.getD k (false, .mk 0 [] [])).1 || !satB 3 (trOf ms k) ((outS ms.length s : Nat) : Int))

set_option maxRecDepth 100000 in
set_option maxHeartbeats 4000000 in
theorem dplacks_run (P : Nat → Prop) (ms : List Mem) (v : Value) (k s : Nat) (w : World) (hl : ms.length ≤ 10) (hk : k < ms.length) (hs : s < 2 ^ ms.length) (h : MemsAt P 3 w v ms) :
    Calls Tryz.prog 58 #[.agg #[v], .int .i64 (k : Int), .int .i64 (s : Int)] w fun e w' => e = .returned (.bool (lackB ms s k)) ∧ Below w.heap.size w w' := by
  obtain ⟨A, c, rfl⟩ := h.slice
  have hb1 : Below w.heap.size w (w.alloc (.cells #[.slice A ms.length c] 27)) := balloc (bref w) _
  have k0 : (w.alloc (.cells #[.slice A ms.length c] 27)).heap[w.heap.size]? = some (.cells #[.slice A ms.length c] 27 (0, 0)) := alloc_at rfl
  have hp2 : 2 ^ ms.length ≤ 2 ^ 10 := Nat.pow_le_pow_right (by omega) hl
  have hs10 : s < 1024 := by omega
  have hm10 : 2 ^ ms.length - 1 < 1024 := by omega
  have han : bits .andNot .i64 ((2 ^ ms.length - 1 : Nat) : Int) (s : Int) = ((outS ms.length s : Nat) : Int) := andNot_nat (2 ^ ms.length - 1) s hm10 hs10
  have HMR := Lib.hid (fun W => dpmembers_run A ms.length c hl W)
  obtain ⟨M, hM⟩ : ∃ M, 2 ^ ms.length - 1 = M := ⟨_, rfl⟩
  rw [hM] at han HMR hm10
  clear hM
  have hrl := outS_lt ms.length s hl
  have HHB := Lib.hid (show hasB ((outS ms.length s : Nat) : Int) (k : Int) = !s.testBit k from by rw [hasB_bit hrl (by omega), outS_bit, decide_eq_true hk, Bool.true_and])
  have HLB := Lib.hid (show lackB ms s k = (!s.testBit k && (!(ms.getD k (false, .mk 0 [] [])).1 || !satB 3 (trOf ms k) ((outS ms.length s : Nat) : Int))) from rfl)
  generalize outS ms.length s = r at han hrl HHB HLB
  have H := Lib.hid (h.below hb1)
  have HB := Lib.hid hb1
  have K0 := Lib.hid k0
  clear h hb1 k0 hp2 hs
  go_enter Tryz.func58, Tryz.ntmps58
  go_upto_region 1 with fail
  generalize w.alloc (.cells #[.slice A ms.length c] 27) = W1 at *
  generalize hg : w.heap.size = g at *
  have HG := Lib.hid hg
  clear hg
  have c0 : W1.cell? ⟨g, 0, none⟩ = some (.slice A ms.length c) := cell_of_row _ _ 0 _ _ (0, 0) K0.out
  have HBw := Lib.hid (show Below w.heap.size w W1 by rw [HG.out]; exact HB.out)
  go_wp2_with fail
  refine (HMR.out _).mono ?_
  rintro e W2 ⟨rfl, hb2⟩
  have c2 := (hb2.cell (cell_lt c0)).trans c0
  have HB2 := Lib.hid (bstep HBw.out hb2)
  have H2 := Lib.hid (H.out.below hb2)
  clear hb2 c0
  go_wp2_with fail
  refine (has_run _ _ _).mono ?_
  rintro e W3 ⟨rfl, rfl⟩
  rw [HHB.out]
  obtain ⟨q, hq⟩ : ∃ q, s.testBit k = q := ⟨_, rfl⟩
  rw [hq] at HLB ⊢
  cases q
  · obtain ⟨A', c', hA', hL⟩ := H2.out
    injection hA' with q1 q2 q3
    subst q1
    obtain ⟨m, hm⟩ : ∃ m, ms[k]? = some m := ⟨_, List.getElem?_eq_getElem hk⟩
    obtain ⟨b, off, y0, y1, y2, rfl, _, d0, d1, d2, d3, hT⟩ := hL k m hm
    have e1 : ms.getD k (false, .mk 0 [] []) = m := by rw [List.getD_eq_getElem?_getD, hm]; rfl
    have HLB2 := Lib.hid (show lackB ms s k = (!m.1 || !satB 3 m.2 (r : Int)) from by rw [HLB.out]; unfold trOf; rw [e1]; rfl)
    obtain ⟨dc, T⟩ := m
    obtain ⟨t, a1, n1, x1, a2, n2, x2, rfl, rfl, rfl⟩ := hT.form
    have HT := Lib.hid hT
    clear hL hT hm e1 q2 q3 hq
    cases dc
    · have HF := Lib.hid (show lackB ms s k = true from by rw [HLB2.out]; rfl)
      go_wp2_with fail
      go_ret
      exact ⟨by rw [HF.out]; rfl, HB2.out⟩
    · have HF := Lib.hid (show lackB ms s k = !satB 3 T (r : Int) from by rw [HLB2.out]; rfl)
      go_wp2_with fail
      refine (satisfied_run P 3 T _ _ _ (r : Int) _ HT.out).mono ?_
      rintro e W4 ⟨rfl, hb4⟩
      have HB4 := Lib.hid (bstep HB2.out hb4)
      clear hb4
      go_wp2_with fail
      go_ret
      exact ⟨by rw [HF.out]; rfl, HB4.out⟩
  · have HF := Lib.hid (show lackB ms s k = false from by rw [HLB.out]; rfl)
    go_wp2_with fail
    go_ret
    exact ⟨by rw [HF.out]; rfl, HB2.out⟩

theorem set3_rowR {W : World} {r : Nat} {a0 a1 a2 : Value} {t : TypeId} (u0 u1 u2 : Value) (h : W.heap[r]? = some (.cells #[a0, a1, a2] t (0, 0))) : (((W.setCell ⟨r, 0, none⟩ u0).setCell ⟨r, 1, none⟩ u1).setCell ⟨r, 2, none⟩ u2).heap[r]? = some (.cells #[u0, u1, u2] t (0, 0)) := by
  simp [World.setCell, Array.getElem?_modify, h]

/-- What Refute returns. -/
def RefIs (s : Nat) (ls hs : List Mem) (e : Ending) : Prop :=
  (∃ k : Nat, k < ls.length ∧ lackB hs s k = true ∧ (∀ j, j < k → lackB hs s j = false) ∧ e = .returned (.tuple #[.agg #[.int .i64 (k : Int), .int .i64 0, .int .i64 0], .int .i64 0])) ∨
  ((∀ j, j < ls.length → lackB hs s j = false) ∧ ((∃ a b : Nat, e = .returned (.tuple #[.agg #[.int .i64 (-1), .int .i64 (a : Int), .int .i64 (b : Int)], .int .i64 0]) ∧ Apart 3 (D3.delM s ls) a ∧ IsGr 3 (D3.delM s ls) (outS (D3.delM s ls).length a &&& declS (D3.delM s ls) (D3.delM s ls).length) b ∧ b < 1024 ∧ b ≠ 0) ∨
    (e = .returned (.tuple #[.agg #[.int .i64 0, .int .i64 0, .int .i64 0], .int .i64 11]) ∧ InT (D3.delM s ls))))

set_option maxRecDepth 100000 in
set_option maxHeartbeats 4000000 in
theorem dprefute_run (P Q : Nat → Prop) (ls hs : List Mem) (vl vh : Value) (s : Nat) (hsx : s < 2 ^ ls.length) (w : World) (hl : ls.length ≤ 7) (h1 : MemsAt P 3 w vl ls) (h2 : MemsAt Q 3 w vh hs) (hp : PairM ls hs) :
    Calls Tryz.prog 23 #[.agg #[vl], .agg #[vh], .int .i64 (s : Int)] w fun e w' => RefIs s ls hs e ∧ Below w.heap.size w w' := by
  have HS := Lib.hid hsx
  clear hsx
  obtain ⟨A, c, rfl⟩ := h1.slice
  obtain ⟨B, d, rfl⟩ := h2.slice
  have hlen := hp.len
  have hokl := hp.okl
  have hokh := hp.okh
  have hdec := hp.decl
  have HDL := Lib.hid (fun W (h : MemsAt P 3 W (.slice A ls.length c) ls) => declared_run P 3 ls _ W (by omega) h)
  have HDH := Lib.hid (fun W (h : MemsAt Q 3 W (.slice B hs.length d) hs) => declared_run Q 3 hs _ W (by omega) h)
  rw [hdec] at HDH
  rw [hlen] at h2 HDH hokh ⊢
  obtain ⟨n, hn⟩ : ∃ n, ls.length = n := ⟨_, rfl⟩
  have HN := Lib.hid hn
  have HNH := Lib.hid hlen
  rw [hn] at HNH
  have HD := Lib.hid (fun k (h : (declS ls ls.length).testBit k = true) => declS_bit h)
  have HDM := Lib.hid (fun k (h : (declS ls ls.length).testBit k = true) => declS_memD h)
  have hDl : declS ls ls.length < 1024 := declS_lt ls _ (by omega)
  generalize declS ls ls.length = D at HDL HDH hDl HD HDM
  rw [hn] at h1 h2 HDL HDH hokl hokh hl HD ⊢
  have HP := Lib.hid hp
  have HOL := Lib.hid hokl
  have HOH := Lib.hid hokh
  have hpn := PA.new h1 h2
  have hz2 : ((w.alloc (.cells #[.slice A n c] 27)).alloc (.cells #[.slice B n d] 27)).heap.size = w.heap.size + 2 := by rw [alloc_sz, alloc_sz]
  have HPA := Lib.hid (hpn.to (balloc (bref _) (.cells #[.int .i64 0, .int .i64 0, .int .i64 0] 42)))
  have HRB := Lib.hid (show (((w.alloc (.cells #[.slice A n c] 27)).alloc (.cells #[.slice B n d] 27)).alloc (.cells #[.int .i64 0, .int .i64 0, .int .i64 0] 42)).heap[w.heap.size + 2]? = some (.cells #[.int .i64 0, .int .i64 0, .int .i64 0] 42) from alloc_at hz2)
  clear hpn
  clear h1 h2 hp hokl hokh hn hdec hlen
  go_enter Tryz.func23, Tryz.ntmps23
  go_upto_region 1 with fail
  generalize (((w.alloc (.cells #[.slice A n c] 27)).alloc (.cells #[.slice B n d] 27)).alloc (.cells #[.int .i64 0, .int .i64 0, .int .i64 0] 42)) = W1 at *
  clear hz2
  generalize hg : w.heap.size = g at HPA HRB ⊢
  have HG := Lib.hid hg
  clear hg
  have l0 := HPA.out.cs.1
  have h0 := HPA.out.cs.2.1
  go_wp2_with fail
  refine (dpvpair_run P Q ls hs _ _ s HS.out _ (by rw [HN.out]; exact hl) HPA.out.ml HPA.out.mh HP.out).mono ?_
  rintro e W1x ⟨rfl, hbx⟩
  have HPA1 := Lib.hid (HPA.out.to hbx)
  have HBZ := Lib.hid hbx
  clear hbx l0 h0
  have l1 := HPA1.out.cs.1
  have h1 := HPA1.out.cs.2.1
  have HRB1 := Lib.hid ((HBZ.out.block _ (Array.getElem?_eq_some_iff.1 HRB.out).1).trans HRB.out)
  go_wp2_with fail
  go_loopw [24] (fun t W => ∃ k : Nat, k ≤ n ∧ t = .int .i64 (k : Int) ∧ Hid (∀ j, j < k → lackB hs s j = false) ∧ Hid (Below W1x.heap.size W1x W)) (fun t _ => n - (intOf t).toNat)
  case atStart => exact ⟨0, Nat.zero_le _, rfl, Lib.hid (fun j h => absurd h (by omega)), Lib.hid (bref _)⟩
  case round =>
    obtain ⟨k, hk, rfl, hNo, hBe⟩ := hrel
    have hpa := HPA1.out.to hBe.out
    have l0 := hpa.cs.1
    have h0 := hpa.cs.2.1
    have HPAR := Lib.hid hpa
    have HRBr := Lib.hid ((hBe.out.block _ (Array.getElem?_eq_some_iff.1 HRB1.out).1).trans HRB1.out)
    clear hpa l1 h1
    by_cases hlt : k < n
    · go_wp2_with fail
      refine (dplacks_run Q hs _ k s _ (by rw [HNH.out]; omega) (by rw [HNH.out]; exact hlt) (by rw [HP.out.len]; exact HS.out) HPAR.out.mh).mono ?_
      rintro e W7 ⟨rfl, hb7⟩
      obtain ⟨x, hx⟩ : ∃ x, lackB hs s k = x := ⟨_, rfl⟩
      have HX := Lib.hid hx
      rw [hx]
      have HB7 := Lib.hid (bstep hBe.out hb7)
      have HBW := Lib.hid (HPAR.out.to hb7).bel
      have HRB7 := Lib.hid ((hb7.block _ (Array.getElem?_eq_some_iff.1 HRBr.out).1).trans HRBr.out)
      clear hb7 hx
      cases x
      · have HN1 := Lib.hid (show ∀ j, j < k + 1 → lackB hs s j = false from fun j hj => by
          rcases Nat.lt_or_ge j k with h | h
          · exact hNo.out j h
          · obtain rfl : j = k := by omega
            exact HX.out)
        go_wp2_with fail
        go_roundw
        case rel => exact ⟨k + 1, by omega, by go_num, HN1, HB7⟩
        case measure => simp [intOf]; omega
      · have hrb := HRB7.out
        have z0 : W7.cell? ⟨g + 2, 0, none⟩ = some (.int .i64 0) := cell_of_row _ _ 0 _ _ (0, 0) hrb
        have z1 : W7.cell? ⟨g + 2, 1, none⟩ = some (.int .i64 0) := cell_of_row _ _ 1 _ _ (0, 0) hrb
        have z2 : W7.cell? ⟨g + 2, 2, none⟩ = some (.int .i64 0) := cell_of_row _ _ 2 _ _ (0, 0) hrb
        have zf0 : W7.frozen? ⟨g + 2, 0, none⟩ = false := by simp [World.frozen?, hrb]
        have zf1 : W7.frozen? ⟨g + 2, 1, none⟩ = false := by simp [World.frozen?, hrb]
        have zf2 : W7.frozen? ⟨g + 2, 2, none⟩ = false := by simp [World.frozen?, hrb]
        have hset := set3_rowR (.int .i64 (k : Int)) (.int .i64 0) (.int .i64 0) hrb
        have Q0 := Lib.hid (cell_of_row _ _ 0 _ _ (0, 0) hset : (((W7.setCell ⟨g + 2, 0, none⟩ (.int .i64 (k : Int))).setCell ⟨g + 2, 1, none⟩ (.int .i64 0)).setCell ⟨g + 2, 2, none⟩ (.int .i64 0)).cell? ⟨g + 2, 0, none⟩ = some (.int .i64 (k : Int)))
        have Q1 := Lib.hid (cell_of_row _ _ 1 _ _ (0, 0) hset : (((W7.setCell ⟨g + 2, 0, none⟩ (.int .i64 (k : Int))).setCell ⟨g + 2, 1, none⟩ (.int .i64 0)).setCell ⟨g + 2, 2, none⟩ (.int .i64 0)).cell? ⟨g + 2, 1, none⟩ = some (.int .i64 0))
        have Q2 := Lib.hid (cell_of_row _ _ 2 _ _ (0, 0) hset : (((W7.setCell ⟨g + 2, 0, none⟩ (.int .i64 (k : Int))).setCell ⟨g + 2, 1, none⟩ (.int .i64 0)).setCell ⟨g + 2, 2, none⟩ (.int .i64 0)).cell? ⟨g + 2, 2, none⟩ = some (.int .i64 0))
        have HFB := Lib.hid (show Below w.heap.size w (((W7.setCell ⟨g + 2, 0, none⟩ (.int .i64 (k : Int))).setCell ⟨g + 2, 1, none⟩ (.int .i64 0)).setCell ⟨g + 2, 2, none⟩ (.int .i64 0)) from by
          have hG := HG.out
          exact bset (bset (bset (HBW.out) (p := ⟨g + 2, 0, none⟩) (by show w.heap.size ≤ g + 2; omega) _) (p := ⟨g + 2, 1, none⟩) (by show w.heap.size ≤ g + 2; omega) _) (p := ⟨g + 2, 2, none⟩) (by show w.heap.size ≤ g + 2; omega) _)
        clear hset hrb
        go_wp2_with fail
        have q0 := Q0.out
        have q1 := Q1.out
        have q2 := Q2.out
        refine bodyPost_ret (v := .tuple #[.agg #[.int .i64 (k : Int), .int .i64 0, .int .i64 0], .int .i64 0]) ?_ rfl ⟨Or.inl ⟨k, by rw [HN.out]; exact hlt, HX.out, hNo.out, rfl⟩, HFB.out⟩
        simp [results, Tryz.results23, go_sem, q0, q1, q2]
    · obtain rfl : k = n := by omega
      have HNA := Lib.hid (show ∀ j, j < ls.length → lackB hs s j = false from fun j hj => hNo.out j (by rw [← HN.out]; exact hj))
      have HS10 := Lib.hid (show s < 1024 from by have h := HS.out; have : 2 ^ ls.length ≤ 2 ^ 10 := Nat.pow_le_pow_right (by omega) (by rw [HN.out]; omega); omega)
      go_wp2_with fail
      refine (D3.pdelete_run P ls _ s _ (by rw [HN.out]; omega) HS10.out HPAR.out.ml (by rw [HN.out]; exact HOL.out)).mono ?_
      rintro e Wd ⟨vd, rfl, hmd, hbd⟩
      have HMD := Lib.hid hmd
      have HBD := Lib.hid hbd
      clear hbd hmd
      go_wp2_with fail
      refine (D3.disjoint12_run _ (D3.delM s ls) _ _ (by rw [D3.delM_len, HN.out]; omega) HMD.out (D3.delM_ok (by rw [HN.out]; exact HOL.out))).mono ?_
      rintro e We ⟨hdj, hbe⟩
      have HBW := Lib.hid (HPAR.out.to (bstep HBD.out hbe)).bel
      have HRBe := Lib.hid (((bstep HBD.out hbe).block _ (Array.getElem?_eq_some_iff.1 HRBr.out).1).trans HRBr.out)
      clear hbe
      rcases hdj with ⟨i, a, b, rfl, hi, hap, hgr, hb10, hb0⟩ | ⟨rfl, hno⟩
      · have HR := Lib.hid (And.intro hap (And.intro hgr hb10))
        clear hap hgr hb10 hi
        have hrb := HRBe.out
        have z0 : We.cell? ⟨g + 2, 0, none⟩ = some (.int .i64 0) := cell_of_row _ _ 0 _ _ (0, 0) hrb
        have z1 : We.cell? ⟨g + 2, 1, none⟩ = some (.int .i64 0) := cell_of_row _ _ 1 _ _ (0, 0) hrb
        have z2 : We.cell? ⟨g + 2, 2, none⟩ = some (.int .i64 0) := cell_of_row _ _ 2 _ _ (0, 0) hrb
        have zf0 : We.frozen? ⟨g + 2, 0, none⟩ = false := by simp [World.frozen?, hrb]
        have zf1 : We.frozen? ⟨g + 2, 1, none⟩ = false := by simp [World.frozen?, hrb]
        have zf2 : We.frozen? ⟨g + 2, 2, none⟩ = false := by simp [World.frozen?, hrb]
        have hset := set3_rowR (.int .i64 (-1)) (.int .i64 (a : Int)) (.int .i64 (b : Int)) hrb
        have Q0 := Lib.hid (cell_of_row _ _ 0 _ _ (0, 0) hset : (((We.setCell ⟨g + 2, 0, none⟩ (.int .i64 (-1))).setCell ⟨g + 2, 1, none⟩ (.int .i64 (a : Int))).setCell ⟨g + 2, 2, none⟩ (.int .i64 (b : Int))).cell? ⟨g + 2, 0, none⟩ = some (.int .i64 (-1)))
        have Q1 := Lib.hid (cell_of_row _ _ 1 _ _ (0, 0) hset : (((We.setCell ⟨g + 2, 0, none⟩ (.int .i64 (-1))).setCell ⟨g + 2, 1, none⟩ (.int .i64 (a : Int))).setCell ⟨g + 2, 2, none⟩ (.int .i64 (b : Int))).cell? ⟨g + 2, 1, none⟩ = some (.int .i64 (a : Int)))
        have Q2 := Lib.hid (cell_of_row _ _ 2 _ _ (0, 0) hset : (((We.setCell ⟨g + 2, 0, none⟩ (.int .i64 (-1))).setCell ⟨g + 2, 1, none⟩ (.int .i64 (a : Int))).setCell ⟨g + 2, 2, none⟩ (.int .i64 (b : Int))).cell? ⟨g + 2, 2, none⟩ = some (.int .i64 (b : Int)))
        have HFB := Lib.hid (show Below w.heap.size w (((We.setCell ⟨g + 2, 0, none⟩ (.int .i64 (-1))).setCell ⟨g + 2, 1, none⟩ (.int .i64 (a : Int))).setCell ⟨g + 2, 2, none⟩ (.int .i64 (b : Int))) from by
          have hG := HG.out
          exact bset (bset (bset (HBW.out) (p := ⟨g + 2, 0, none⟩) (by show w.heap.size ≤ g + 2; omega) _) (p := ⟨g + 2, 1, none⟩) (by show w.heap.size ≤ g + 2; omega) _) (p := ⟨g + 2, 2, none⟩) (by show w.heap.size ≤ g + 2; omega) _)
        clear hset hrb
        go_wp2_with fail
        have q0 := Q0.out
        have q1 := Q1.out
        have q2 := Q2.out
        refine bodyPost_ret (v := .tuple #[.agg #[.int .i64 (-1), .int .i64 (a : Int), .int .i64 (b : Int)], .int .i64 0]) ?_ rfl ⟨Or.inr ⟨HNA.out, Or.inl ⟨a, b, rfl, HR.out.1, HR.out.2.1, HR.out.2.2, (apart_gr HR.out.2.2 HR.out.2.1).1 HR.out.1.2⟩⟩, HFB.out⟩
        simp [results, Tryz.results23, go_sem, q0, q1, q2]
      · have HIN := Lib.hid (show InT (D3.delM s ls) from fun t ht => hno t (apart_lt (by rw [D3.delM_len, HN.out]; omega) ht) ht)
        clear hno
        have hrb := HRBe.out
        have z0 : We.cell? ⟨g + 2, 0, none⟩ = some (.int .i64 0) := cell_of_row _ _ 0 _ _ (0, 0) hrb
        have z1 : We.cell? ⟨g + 2, 1, none⟩ = some (.int .i64 0) := cell_of_row _ _ 1 _ _ (0, 0) hrb
        have z2 : We.cell? ⟨g + 2, 2, none⟩ = some (.int .i64 0) := cell_of_row _ _ 2 _ _ (0, 0) hrb
        have zf0 : We.frozen? ⟨g + 2, 0, none⟩ = false := by simp [World.frozen?, hrb]
        have zf1 : We.frozen? ⟨g + 2, 1, none⟩ = false := by simp [World.frozen?, hrb]
        have zf2 : We.frozen? ⟨g + 2, 2, none⟩ = false := by simp [World.frozen?, hrb]
        have hset := set3_rowR (.int .i64 0) (.int .i64 0) (.int .i64 0) hrb
        have Q0 := Lib.hid (cell_of_row _ _ 0 _ _ (0, 0) hset : (((We.setCell ⟨g + 2, 0, none⟩ (.int .i64 0)).setCell ⟨g + 2, 1, none⟩ (.int .i64 0)).setCell ⟨g + 2, 2, none⟩ (.int .i64 0)).cell? ⟨g + 2, 0, none⟩ = some (.int .i64 0))
        have Q1 := Lib.hid (cell_of_row _ _ 1 _ _ (0, 0) hset : (((We.setCell ⟨g + 2, 0, none⟩ (.int .i64 0)).setCell ⟨g + 2, 1, none⟩ (.int .i64 0)).setCell ⟨g + 2, 2, none⟩ (.int .i64 0)).cell? ⟨g + 2, 1, none⟩ = some (.int .i64 0))
        have Q2 := Lib.hid (cell_of_row _ _ 2 _ _ (0, 0) hset : (((We.setCell ⟨g + 2, 0, none⟩ (.int .i64 0)).setCell ⟨g + 2, 1, none⟩ (.int .i64 0)).setCell ⟨g + 2, 2, none⟩ (.int .i64 0)).cell? ⟨g + 2, 2, none⟩ = some (.int .i64 0))
        have HFB := Lib.hid (show Below w.heap.size w (((We.setCell ⟨g + 2, 0, none⟩ (.int .i64 0)).setCell ⟨g + 2, 1, none⟩ (.int .i64 0)).setCell ⟨g + 2, 2, none⟩ (.int .i64 0)) from by
          have hG := HG.out
          exact bset (bset (bset (HBW.out) (p := ⟨g + 2, 0, none⟩) (by show w.heap.size ≤ g + 2; omega) _) (p := ⟨g + 2, 1, none⟩) (by show w.heap.size ≤ g + 2; omega) _) (p := ⟨g + 2, 2, none⟩) (by show w.heap.size ≤ g + 2; omega) _)
        clear hset hrb
        go_wp2_with fail
        have q0 := Q0.out
        have q1 := Q1.out
        have q2 := Q2.out
        refine bodyPost_ret (v := .tuple #[.agg #[.int .i64 0, .int .i64 0, .int .i64 0], .int .i64 11]) ?_ rfl ⟨Or.inr ⟨HNA.out, Or.inr ⟨rfl, HIN.out⟩⟩, HFB.out⟩
        simp [results, Tryz.results23, go_sem, q0, q1, q2]

set_option maxRecDepth 100000 in
set_option maxHeartbeats 4000000 in
theorem dpcheckN_run (P Q : Nat → Prop) (ls hs : List Mem) (vl vh : Value) (k s : Nat) (hkx : k < ls.length) (hsx : s < 2 ^ ls.length) (w : World) (hl : ls.length ≤ 7) (h1 : MemsAt P 3 w vl ls) (h2 : MemsAt Q 3 w vh hs) (hp : PairM ls hs) :
    Calls Tryz.prog 25 #[.agg #[vl], .agg #[vh], .int .i64 (s : Int), .agg #[.int .i64 (k : Int), .int .i64 0, .int .i64 0]] w fun e w' => e = .returned (.bool (lackB hs s k)) ∧ Below w.heap.size w w' := by
  have HS := Lib.hid hsx
  have HK := Lib.hid hkx
  clear hsx hkx
  obtain ⟨A, c, rfl⟩ := h1.slice
  obtain ⟨B, d, rfl⟩ := h2.slice
  have hlen := hp.len
  have hokl := hp.okl
  have hokh := hp.okh
  have hdec := hp.decl
  have HDL := Lib.hid (fun W (h : MemsAt P 3 W (.slice A ls.length c) ls) => declared_run P 3 ls _ W (by omega) h)
  have HDH := Lib.hid (fun W (h : MemsAt Q 3 W (.slice B hs.length d) hs) => declared_run Q 3 hs _ W (by omega) h)
  rw [hdec] at HDH
  rw [hlen] at h2 HDH hokh ⊢
  obtain ⟨n, hn⟩ : ∃ n, ls.length = n := ⟨_, rfl⟩
  have HN := Lib.hid hn
  have HNH := Lib.hid hlen
  rw [hn] at HNH
  have HD := Lib.hid (fun k (h : (declS ls ls.length).testBit k = true) => declS_bit h)
  have HDM := Lib.hid (fun k (h : (declS ls ls.length).testBit k = true) => declS_memD h)
  have hDl : declS ls ls.length < 1024 := declS_lt ls _ (by omega)
  generalize declS ls ls.length = D at HDL HDH hDl HD HDM
  rw [hn] at h1 h2 HDL HDH hokl hokh hl HD ⊢
  have HP := Lib.hid hp
  have HOL := Lib.hid hokl
  have HOH := Lib.hid hokh
  have hpn := PA.new h1 h2
  have hz2 : ((w.alloc (.cells #[.slice A n c] 27)).alloc (.cells #[.slice B n d] 27)).heap.size = w.heap.size + 2 := by rw [alloc_sz, alloc_sz]
  have HPA := Lib.hid (hpn.to (balloc (bref _) (.cells #[.int .i64 (k : Int), .int .i64 0, .int .i64 0] 42)))
  have HRB := Lib.hid (show (((w.alloc (.cells #[.slice A n c] 27)).alloc (.cells #[.slice B n d] 27)).alloc (.cells #[.int .i64 (k : Int), .int .i64 0, .int .i64 0] 42)).heap[w.heap.size + 2]? = some (.cells #[.int .i64 (k : Int), .int .i64 0, .int .i64 0] 42) from alloc_at hz2)
  clear hpn
  clear h1 h2 hp hokl hokh hn hdec hlen
  go_enter Tryz.func25, Tryz.ntmps25
  go_upto_region 1 with fail
  generalize (((w.alloc (.cells #[.slice A n c] 27)).alloc (.cells #[.slice B n d] 27)).alloc (.cells #[.int .i64 (k : Int), .int .i64 0, .int .i64 0] 42)) = W1 at *
  clear hz2
  generalize hg : w.heap.size = g at HPA HRB ⊢
  have HG := Lib.hid hg
  clear hg
  have l0 := HPA.out.cs.1
  have h0 := HPA.out.cs.2.1
  go_wp2_with fail
  refine (dpvpair_run P Q ls hs _ _ s HS.out _ (by rw [HN.out]; exact hl) HPA.out.ml HPA.out.mh HP.out).mono ?_
  rintro e W1x ⟨rfl, hbx⟩
  have HPA1 := Lib.hid (HPA.out.to hbx)
  have HBZ := Lib.hid hbx
  clear hbx l0 h0
  have l1 := HPA1.out.cs.1
  have h1 := HPA1.out.cs.2.1
  have HRB1 := Lib.hid ((HBZ.out.block _ (Array.getElem?_eq_some_iff.1 HRB.out).1).trans HRB.out)
  have hrb := HRB1.out
  have z0 : W1x.cell? ⟨g + 2, 0, none⟩ = some (.int .i64 (k : Int)) := cell_of_row _ _ 0 _ _ (0, 0) hrb
  have z1 : W1x.cell? ⟨g + 2, 1, none⟩ = some (.int .i64 0) := cell_of_row _ _ 1 _ _ (0, 0) hrb
  have z2 : W1x.cell? ⟨g + 2, 2, none⟩ = some (.int .i64 0) := cell_of_row _ _ 2 _ _ (0, 0) hrb
  have hkk : ¬ (k : Int) = -1 := by omega
  clear hrb
  go_wp2_with fail
  refine (dplacks_run Q hs _ k s _ (by rw [HNH.out]; omega) (by rw [HP.out.len]; exact HK.out) (by rw [HP.out.len]; exact HS.out) HPA1.out.mh).mono ?_
  rintro e W7 ⟨rfl, hb7⟩
  have HBW := Lib.hid (HPA1.out.to hb7).bel
  clear hb7 z0 z1 z2
  go_wp2_with fail
  go_ret
  exact ⟨rfl, HBW.out⟩

end Go.Proofs.YtacpfcckilnbfaaGreat

namespace Go.Proofs.YtacpfcckilnbfaaGreat
set_option linter.unusedVariables false
set_option linter.unusedSimpArgs false
open Go.RowKit

end Go.Proofs.YtacpfcckilnbfaaGreat

namespace Go.Proofs.YtacpfcckilnbfaaGreat
set_option linter.unusedVariables false
set_option linter.unusedSimpArgs false
open Go.RowKit

/-- Is t a quorum? -/
def qB (ms : List Mem) (t : Nat) : Bool := !(t == 0) && (minS t (declS ms ms.length) == 0) && (List.range ms.length).all (fun k => !uns 3 ms t k)

theorem qB_iff {ms : List Mem} {t : Nat} : IsQ 3 ms t ↔ qB ms t = true := by
  unfold IsQ qB Closed
  rw [Bool.and_eq_true, Bool.and_eq_true, List.all_eq_true, beq_iff_eq, minS_zero_iff]
  simp only [List.mem_range, Bool.not_eq_true', beq_eq_false_iff_ne, ne_eq]
  constructor
  · rintro ⟨h1, h2, h3⟩; exact ⟨⟨h1, h2⟩, h3⟩
  · rintro ⟨⟨h1, h2⟩, h3⟩; exact ⟨h1, h2, h3⟩

/-- Are no two quorums disjoint? -/
def inB (ms : List Mem) : Bool := (List.range (2 ^ ms.length)).all fun t => !qB ms t || (List.range (2 ^ ms.length)).all fun q => !(qB ms q && minS q (outS ms.length t &&& declS ms ms.length) == 0)

theorem sub_lt {ms : List Mem} {q : Nat} (h : Sub q (declS ms ms.length)) : q < 2 ^ ms.length :=
  Nat.lt_pow_two_of_testBit _ (fun k hk => by
    cases hb : q.testBit k
    · rfl
    · have := declS_bit (h k hb)
      omega)

theorem inB_iff {ms : List Mem} (hl : ms.length ≤ 10) : InT ms ↔ inB ms = true := by
  have hp := pow_1024 hl
  unfold InT inB
  rw [List.all_eq_true]
  constructor
  · intro h t ht
    rw [List.mem_range] at ht
    cases hq : qB ms t
    · rfl
    · rw [Bool.not_true, Bool.false_or, List.all_eq_true]
      intro q hq2
      rw [List.mem_range] at hq2
      rw [Bool.not_eq_true', Bool.and_eq_false_iff]
      cases hqq : qB ms q
      · exact .inl rfl
      · refine .inr ?_
        cases hs : (minS q (outS ms.length t &&& declS ms ms.length) == 0)
        · rfl
        · have h1 := qB_iff.2 hqq
          exact absurd ⟨qB_iff.2 hq, q, by omega, h1.1, minS_zero_iff.1 (beq_iff_eq.1 hs), h1.2.2⟩ (h t)
  · rintro h t ⟨h1, q, h2, h3, h4, h5⟩
    have hsub : Sub q (declS ms ms.length) := fun k hk => by have := h4 k hk; rw [Nat.testBit_and, Bool.and_eq_true] at this; exact this.2
    have h6 := h t (List.mem_range.2 (sub_lt h1.2.1))
    rw [qB_iff.1 h1, Bool.not_true, Bool.false_or, List.all_eq_true] at h6
    have h7 := h6 q (List.mem_range.2 (sub_lt hsub))
    rw [qB_iff.1 ⟨h3, hsub, h5⟩, Bool.true_and, beq_iff_eq.2 (minS_zero_iff.2 h4)] at h7
    cases h7

def avB (ms : List Mem) (s : Nat) : Bool := outS ms.length s == 0 || qB ms (outS ms.length s)

theorem avB_iff {ms : List Mem} {s : Nat} : AvT ms s ↔ avB ms s = true := by
  unfold AvT avB
  rw [Bool.or_eq_true, beq_iff_eq, qB_iff]

theorem fo14 : ∀ b : Fin 16, (avB (foM 4) b.val && inB (D3.delM b.val (foM 4))) = decide (b.val ∈ [0, 1, 2, 4, 8, 15]) := by decide +kernel

end Go.Proofs.YtacpfcckilnbfaaGreat
