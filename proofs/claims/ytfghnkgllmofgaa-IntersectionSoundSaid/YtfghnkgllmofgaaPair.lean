/- Disjoint quorums: the contracts of intersection.pair and intersection.Holds. -/
import Derived.Test.YtfghnkgllmofgaaCValid
import Derived.Test.YtfghnkgllmofgaaOrdSets
import Derived.Test.YtfghnkgllmofgaaOrdersMath
import Derived.Test.YtfghnkgllmofgaaHeld
namespace Go.Proofs.Ytfghnkgllmofgaa
set_option linter.unusedVariables false
set_option linter.unusedSimpArgs false
open Go.RowKit

/-- All members but those of t. -/
def outS (n t : Nat) : Nat := (2 ^ n - 1) ^^^ ((2 ^ n - 1) &&& t)

theorem outS_bit (n t j : Nat) : (outS n t).testBit j = (decide (j < n) && !t.testBit j) := by
  unfold outS
  rw [Nat.testBit_xor, Nat.testBit_and, Nat.testBit_two_pow_sub_one]
  cases decide (j < n) <;> cases t.testBit j <;> rfl

theorem outS_lt (n t : Nat) (hn : n ≤ 10) : outS n t < 1024 := by
  have h : outS n t < 2 ^ 10 := Nat.lt_pow_two_of_testBit _ (fun i hi => by rw [outS_bit, decide_eq_false (by omega)]; rfl)
  omega

/-- t is a quorum. -/
def IsQ (d : Nat) (ms : List Mem) (t : Nat) : Prop := t ≠ 0 ∧ Sub t (declS ms ms.length) ∧ Closed d ms t

/-- t is a quorum beside which there is another one. -/
def Apart (d : Nat) (ms : List Mem) (t : Nat) : Prop := IsQ d ms t ∧ ∃ q, q < 1024 ∧ q ≠ 0 ∧ Sub q (outS ms.length t &&& declS ms ms.length) ∧ Closed d ms q

theorem apart_gr {d : Nat} {ms : List Mem} {t G : Nat} (hG : G < 1024) (h : IsGr d ms (outS ms.length t &&& declS ms ms.length) G) : (∃ q, q < 1024 ∧ q ≠ 0 ∧ Sub q (outS ms.length t &&& declS ms ms.length) ∧ Closed d ms q) ↔ G ≠ 0 := by
  constructor
  · rintro ⟨q, h1, h2, h3, h4⟩ e
    have h5 := h.most q h1 h3 h4
    rw [e] at h5
    exact h2 (Nat.eq_of_testBit_eq fun k => by
      rw [Nat.zero_testBit]
      cases hb : q.testBit k
      · rfl
      · have := h5 k hb; simp at this)
  · intro h1
    exact ⟨G, hG, h1, h.sub, h.closed⟩

theorem keepMP {W W' : World} {P : Nat → Prop} {d g : Nat} {v : Value} {ms : List Mem} (h : W.cell? ⟨g, 0, none⟩ = some v ∧ MemsAt P d W v ms) (hb : Below W.heap.size W W') : W'.cell? ⟨g, 0, none⟩ = some v ∧ MemsAt P d W' v ms := ⟨(hb.cell (cell_lt h.1)).trans h.1, h.2.below hb⟩

theorem memsM {W : World} {P : Nat → Prop} {d g : Nat} {v : Value} {ms : List Mem} (h : W.cell? ⟨g, 0, none⟩ = some v ∧ MemsAt P d W v ms) : MemsAt P d W v ms := h.2

theorem bdrew' (W : World) : Below W.heap.size W W.drew := ⟨rfl, rfl, rfl, Nat.le_refl _, fun _ _ => rfl⟩

def noneB (R G : Nat) : Bool := (G == 0) || (R ^^^ (R &&& G) != 0)

theorem noneB_iff {R G : Nat} : noneB R G = true ↔ G = 0 ∨ ¬ Sub R G := by
  unfold noneB
  rw [Bool.or_eq_true, beq_iff_eq, bne_iff_ne, ← sub_iff]

/-- What pair returns. -/
def PairOk (d : Nat) (ms : List Mem) (e : Ending) : Prop := (∃ i a b : Nat, e = .returned (.tuple #[.int .i64 (a : Int), .int .i64 (b : Int), .bool true]) ∧ (ordN ms.length)[i]? = some a ∧ Apart d ms a ∧ IsGr d ms (outS ms.length a &&& declS ms ms.length) b ∧ b < 1024 ∧ (∀ j t : Nat, j < i → (ordN ms.length)[j]? = some t → ¬ Apart d ms t)) ∨
  (e = .returned (.tuple #[.int .i64 0, .int .i64 0, .bool false]) ∧ ∀ t, t < 2 ^ ms.length → ¬ Apart d ms t)

def boolM (b : Bool) (s : Nat) : Nat := if b then 20001 - keyN s else 0

set_option maxRecDepth 100000 in
set_option maxHeartbeats 400000 in
theorem members_run (A : Option Addr) (n c : Nat) (hn : n ≤ 10) (w : World) : Calls Try.prog 39 #[.agg #[.slice A n c]] w fun e w' => e = .returned (.int .i64 ((2 ^ n - 1 : Nat) : Int)) ∧ Below w.heap.size w w' := by
  have hp := pow11 n (by omega)
  have hp1 : 1 ≤ 2 ^ n := Nat.one_le_pow _ _ (by omega)
  have hp2 : 2 ^ n ≤ 2 ^ 10 := Nat.pow_le_pow_right (by omega) hn
  obtain ⟨N, hN⟩ : ∃ N, 2 ^ n = N := ⟨_, rfl⟩
  rw [hN] at hp hp1 hp2 ⊢
  clear hN
  have hw1 : wrap64 ((N : Int) - 1) = (N : Int) - 1 := by unfold wrap64; omega
  have hn64 : (n : Int) < 64 := by omega
  have HE := Lib.hid (show ((N - 1 : Nat) : Int) = (N : Int) - 1 by omega)
  go_enter Try.func39, Try.ntmps39
  go_wp2_with fail
  go_ret
  exact ⟨by rw [HE.out]; rfl, balloc (bref _) _⟩

set_option maxRecDepth 100000 in
set_option maxHeartbeats 2000000 in
theorem none_run (P : Nat → Prop) (d : Nat) (ms : List Mem) (v : Value) (R X : Nat) (w : World) (hl : ms.length ≤ 10) (hR : R < 1024) (hX : X < 1024) (h : MemsAt P d w v ms) :
    Calls Try.prog 36 #[.agg #[v], .int .i64 (R : Int), .int .i64 (X : Int)] w fun e w' => ∃ G : Nat, e = .returned (.bool (noneB R G)) ∧ G < 1024 ∧ IsGr d ms (outS ms.length X &&& declS ms ms.length) G ∧ Below w.heap.size w w' := by
  obtain ⟨A, c, rfl⟩ := h.slice
  have hb1 : Below w.heap.size w (w.alloc (.cells #[.slice A ms.length c] 27)) := balloc (bref w) _
  have k0 : (w.alloc (.cells #[.slice A ms.length c] 27)).heap[w.heap.size]? = some (.cells #[.slice A ms.length c] 27 (0, 0)) := alloc_at rfl
  have H := Lib.hid (h.below hb1)
  have HB := Lib.hid hb1
  have K0 := Lib.hid k0
  clear h hb1 k0
  go_enter Try.func36, Try.ntmps36
  go_upto_region 1 with fail
  generalize w.alloc (.cells #[.slice A ms.length c] 27) = W1 at *
  generalize hg : w.heap.size = g at *
  have HG := Lib.hid hg
  clear hg
  have c0 : W1.cell? ⟨g, 0, none⟩ = some (.slice A ms.length c) := cell_of_row _ _ 0 _ _ (0, 0) K0.out
  have hgl := cell_lt c0
  have HBw := Lib.hid (show Below w.heap.size w W1 by rw [HG.out]; exact HB.out)
  obtain ⟨n1, hn1⟩ : ∃ n1, 2 ^ ms.length - 1 = n1 := ⟨_, rfl⟩
  have HN1 := Lib.hid hn1
  have hpL : 2 ^ ms.length ≤ 2 ^ 10 := Nat.pow_le_pow_right (by omega) hl
  have hn1l : n1 < 1024 := by omega
  have hO := andNot_nat n1 X hn1l (by omega)
  have hOl := outS_lt ms.length X hl
  obtain ⟨O, hOq⟩ : ∃ O, outS ms.length X = O := ⟨_, rfl⟩
  have HO := Lib.hid hOq
  rw [show n1 ^^^ (n1 &&& X) = O by rw [← hOq, ← hn1]; rfl] at hO
  rw [hOq] at hOl
  clear hn1 hOq hpL
  have hS := Lib.hid (keepMP (⟨c0, H.out⟩) (bdrew' W1))
  refine wp_region_noPanic ?_
  refine wp_region_held_drew (S := fun W => W.cell? ⟨g, 0, none⟩ = some (.slice A ms.length c) ∧ MemsAt P d W (.slice A ms.length c) ms) (by kernel_rfl) hS.out (fun hHeld => ?_)
  refine take_d (some 8) (i := 0) (v := ?_) rfl rfl (by kernel_rfl) (by kernel_rfl) (by kernel_rfl) (fun _ _ _ h => h) (Or.inl ⟨by rfl, ?_⟩) (by assumption) ?_
  rotate_left
  · intro w hSw; (try dsimp only at hSw); go_simp; (try with_reducible rfl)
  try simp only [Act.put, List.setIfInBounds_toArray, List.set_cons_zero, List.set_cons_succ]
  refine take_d (some 9) (i := 1) (v := ?_) rfl rfl (by kernel_rfl) (by kernel_rfl) (by kernel_rfl) (fun _ _ _ h => h) (Or.inl ⟨by rfl, ?_⟩) (by assumption) ?_
  rotate_left
  · intro w hSw; (try dsimp only at hSw); go_simp; (try with_reducible rfl)
  try simp only [Act.put, List.setIfInBounds_toArray, List.set_cons_zero, List.set_cons_succ]
  refine take_d (some 11) (i := 3) (v := ?_) rfl rfl (by kernel_rfl) (by kernel_rfl) (by kernel_rfl) (fun _ _ _ h => h) (Or.inl ⟨by rfl, ?_⟩) (by assumption) ?_
  rotate_left
  · intro w hSw; (try dsimp only at hSw); go_simp; (try with_reducible rfl)
  try simp only [Act.put, List.setIfInBounds_toArray, List.set_cons_zero, List.set_cons_succ]
  refine wpAnyH_ready (rs := [2]) (by kernel_rfl) (by simp) ?_
  refine AllReadyH.cons rfl (fun K hK => ?_) AllReadyH.nil
  go_simp
  refine (members_run A ms.length c hl _).mono ?_; rintro e WK ⟨rfl, hbK⟩; rw [HN1.out]; have hSK := keepMP (by assumption) hbK
  go_wp2_with fail
  refine hK.out _ _ ?_ (fun hHeld => ?_)
  · exact hSK
  clear hK K
  try simp only [Act.put, List.setIfInBounds_toArray, List.set_cons_zero, List.set_cons_succ]
  refine take_d (some 12) (i := 4) (v := ?_) rfl rfl (by kernel_rfl) (by kernel_rfl) (by kernel_rfl) (fun _ _ _ h => h) (Or.inl ⟨by rfl, ?_⟩) (by assumption) ?_
  rotate_left
  · intro w hSw; (try dsimp only at hSw); go_simp; (try with_reducible rfl)
  try simp only [Act.put, List.setIfInBounds_toArray, List.set_cons_zero, List.set_cons_succ]
  refine wpAnyH_ready (rs := [5]) (by kernel_rfl) (by simp) ?_
  refine AllReadyH.cons rfl (fun K hK => ?_) AllReadyH.nil
  go_simp
  refine (greatest_run _ d ms _ O _ hl hOl (memsM (by assumption))).mono ?_; rintro e WK2 ⟨G, rfl, hGl, hgr, hbK2⟩; have hSK := keepMP (by assumption) hbK2
  go_wp2_with fail
  refine hK.out _ _ ?_ (fun hHeld => ?_)
  · exact hSK
  clear hK K
  try simp only [Act.put, List.setIfInBounds_toArray, List.set_cons_zero, List.set_cons_succ]
  refine take_d (some 7) (i := 6) (v := ?_) rfl rfl (by kernel_rfl) (by kernel_rfl) (by kernel_rfl) (fun _ _ _ h => h) (Or.inl ⟨by rfl, ?_⟩) (by assumption) ?_
  rotate_left
  · intro w hSw; (try dsimp only at hSw); go_simp; (try with_reducible rfl)
  try simp only [Act.put, List.setIfInBounds_toArray, List.set_cons_zero, List.set_cons_succ]
  refine wpAnyH_done (by kernel_rfl) ?_ _
  refine NoPanic.normal ?_
  rw [← HO.out] at hgr
  have HGR := Lib.hid hgr
  have HB2 := Lib.hid (bstep HBw.out (bstep (bstep (bdrew' W1) hbK) hbK2))
  clear hSK hHeld hgr hS hO hbK hbK2
  by_cases hg0 : G = 0
  · have hz : ((G : Int) == 0) = true := by rw [hg0]; rfl
    have HI := Lib.hid (show noneB R G = true by unfold noneB; rw [hg0]; rfl)
    clear hg0
    go_wp2_with fail
    go_ret
    exact ⟨G, by rw [HI.out]; rfl, hGl, HGR.out, HB2.out⟩
  · have hz : ((G : Int) == 0) = false := by rw [beq_eq_false_iff_ne]; omega
    have han := andNot_nat R G hR hGl
    have HI := Lib.hid (show noneB R G = (R ^^^ (R &&& G) != 0) by unfold noneB; rw [beq_eq_false_iff_ne.2 hg0]; rfl)
    generalize R ^^^ (R &&& G) = q at *
    clear hg0
    cases hq : (q != 0)
    · have hq0 : q = 0 := by simpa using hq
      subst hq0
      clear hq
      go_wp2_with fail
      go_ret
      exact ⟨G, by rw [HI.out]; rfl, hGl, HGR.out, HB2.out⟩
    · have hqb : ((q : Int) != 0) = true := by simpa using hq
      rw [hq] at HI
      clear hq
      go_wp2_with fail
      go_ret
      exact ⟨G, by rw [HI.out]; rfl, hGl, HGR.out, HB2.out⟩

set_option maxRecDepth 100000 in
set_option maxHeartbeats 2000000 in
theorem alone_run (P : Nat → Prop) (d : Nat) (ms : List Mem) (v : Value) (R : Nat) (w : World) (hl : ms.length ≤ 10) (hR : R < 1024) (h : MemsAt P d w v ms) :
    Calls Try.prog 37 #[.agg #[v], .int .i64 (R : Int)] w fun e w' => ∃ G : Nat, e = .returned (.bool (G == 0)) ∧ G < 1024 ∧ IsGr d ms (outS ms.length R &&& declS ms ms.length) G ∧ Below w.heap.size w w' := by
  obtain ⟨A, c, rfl⟩ := h.slice
  have hb1 : Below w.heap.size w (w.alloc (.cells #[.slice A ms.length c] 27)) := balloc (bref w) _
  have k0 : (w.alloc (.cells #[.slice A ms.length c] 27)).heap[w.heap.size]? = some (.cells #[.slice A ms.length c] 27 (0, 0)) := alloc_at rfl
  have H := Lib.hid (h.below hb1)
  have HB := Lib.hid hb1
  have K0 := Lib.hid k0
  clear h hb1 k0
  go_enter Try.func37, Try.ntmps37
  go_upto_region 1 with fail
  generalize w.alloc (.cells #[.slice A ms.length c] 27) = W1 at *
  generalize hg : w.heap.size = g at *
  have HG := Lib.hid hg
  clear hg
  have c0 : W1.cell? ⟨g, 0, none⟩ = some (.slice A ms.length c) := cell_of_row _ _ 0 _ _ (0, 0) K0.out
  have hgl := cell_lt c0
  have HBw := Lib.hid (show Below w.heap.size w W1 by rw [HG.out]; exact HB.out)
  obtain ⟨n1, hn1⟩ : ∃ n1, 2 ^ ms.length - 1 = n1 := ⟨_, rfl⟩
  have HN1 := Lib.hid hn1
  have hpL : 2 ^ ms.length ≤ 2 ^ 10 := Nat.pow_le_pow_right (by omega) hl
  have hn1l : n1 < 1024 := by omega
  have hO := andNot_nat n1 R hn1l (by omega)
  have hOl := outS_lt ms.length R hl
  obtain ⟨O, hOq⟩ : ∃ O, outS ms.length R = O := ⟨_, rfl⟩
  have HO := Lib.hid hOq
  rw [show n1 ^^^ (n1 &&& R) = O by rw [← hOq, ← hn1]; rfl] at hO
  rw [hOq] at hOl
  clear hn1 hOq hpL
  have hS := Lib.hid (keepMP (⟨c0, H.out⟩) (bdrew' W1))
  refine wp_region_noPanic ?_
  refine wp_region_held_drew (S := fun W => W.cell? ⟨g, 0, none⟩ = some (.slice A ms.length c) ∧ MemsAt P d W (.slice A ms.length c) ms) (by kernel_rfl) hS.out (fun hHeld => ?_)
  refine take_d (some 5) (i := 0) (v := ?_) rfl rfl (by kernel_rfl) (by kernel_rfl) (by kernel_rfl) (fun _ _ _ h => h) (Or.inl ⟨by rfl, ?_⟩) (by assumption) ?_
  rotate_left
  · intro w hSw; (try dsimp only at hSw); go_simp; (try with_reducible rfl)
  try simp only [Act.put, List.setIfInBounds_toArray, List.set_cons_zero, List.set_cons_succ]
  refine take_d (some 6) (i := 1) (v := ?_) rfl rfl (by kernel_rfl) (by kernel_rfl) (by kernel_rfl) (fun _ _ _ h => h) (Or.inl ⟨by rfl, ?_⟩) (by assumption) ?_
  rotate_left
  · intro w hSw; (try dsimp only at hSw); go_simp; (try with_reducible rfl)
  try simp only [Act.put, List.setIfInBounds_toArray, List.set_cons_zero, List.set_cons_succ]
  refine take_d (some 8) (i := 3) (v := ?_) rfl rfl (by kernel_rfl) (by kernel_rfl) (by kernel_rfl) (fun _ _ _ h => h) (Or.inl ⟨by rfl, ?_⟩) (by assumption) ?_
  rotate_left
  · intro w hSw; (try dsimp only at hSw); go_simp; (try with_reducible rfl)
  try simp only [Act.put, List.setIfInBounds_toArray, List.set_cons_zero, List.set_cons_succ]
  refine wpAnyH_ready (rs := [2]) (by kernel_rfl) (by simp) ?_
  refine AllReadyH.cons rfl (fun K hK => ?_) AllReadyH.nil
  go_simp
  refine (members_run A ms.length c hl _).mono ?_; rintro e WK ⟨rfl, hbK⟩; rw [HN1.out]; have hSK := keepMP (by assumption) hbK
  go_wp2_with fail
  refine hK.out _ _ ?_ (fun hHeld => ?_)
  · exact hSK
  clear hK K
  try simp only [Act.put, List.setIfInBounds_toArray, List.set_cons_zero, List.set_cons_succ]
  refine take_d (some 9) (i := 4) (v := ?_) rfl rfl (by kernel_rfl) (by kernel_rfl) (by kernel_rfl) (fun _ _ _ h => h) (Or.inl ⟨by rfl, ?_⟩) (by assumption) ?_
  rotate_left
  · intro w hSw; (try dsimp only at hSw); go_simp; (try with_reducible rfl)
  try simp only [Act.put, List.setIfInBounds_toArray, List.set_cons_zero, List.set_cons_succ]
  refine wpAnyH_ready (rs := [5]) (by kernel_rfl) (by simp) ?_
  refine AllReadyH.cons rfl (fun K hK => ?_) AllReadyH.nil
  go_simp
  refine (greatest_run _ d ms _ O _ hl hOl (memsM (by assumption))).mono ?_; rintro e WK2 ⟨G, rfl, hGl, hgr, hbK2⟩; have hSK := keepMP (by assumption) hbK2; have hzz : ((G : Int) == 0) = (G == 0) := by rw [Bool.eq_iff_iff]; simp
  go_wp2_with fail
  refine hK.out _ _ ?_ (fun hHeld => ?_)
  · exact hSK
  clear hK K
  try simp only [Act.put, List.setIfInBounds_toArray, List.set_cons_zero, List.set_cons_succ]
  refine take_d (some 11) (i := 6) (v := ?_) rfl rfl (by kernel_rfl) (by kernel_rfl) (by kernel_rfl) (fun _ _ _ h => h) (Or.inl ⟨by rfl, ?_⟩) (by assumption) ?_
  rotate_left
  · intro w hSw; (try dsimp only at hSw); go_simp; (try with_reducible rfl)
  try simp only [Act.put, List.setIfInBounds_toArray, List.set_cons_zero, List.set_cons_succ]
  refine take_d (some 4) (i := 7) (v := ?_) rfl rfl (by kernel_rfl) (by kernel_rfl) (by kernel_rfl) (fun _ _ _ h => h) (Or.inl ⟨by rfl, ?_⟩) (by assumption) ?_
  rotate_left
  · intro w hSw; (try dsimp only at hSw); go_simp; (try with_reducible rfl)
  try simp only [Act.put, List.setIfInBounds_toArray, List.set_cons_zero, List.set_cons_succ]
  refine wpAnyH_done (by kernel_rfl) ?_ _
  refine NoPanic.normal ?_
  rw [← HO.out] at hgr
  have HGR := Lib.hid hgr
  have HB2 := Lib.hid (bstep HBw.out (bstep (bstep (bdrew' W1) hbK) hbK2))
  clear hSK hHeld hgr hS hO hbK hbK2
  go_wp2_with fail
  go_ret
  exact ⟨G, rfl, hGl, HGR.out, HB2.out⟩

set_option maxRecDepth 100000 in
set_option maxHeartbeats 4000000 in
theorem pair_run (P : Nat → Prop) (d : Nat) (ms : List Mem) (v : Value) (w : World) (hl : ms.length ≤ 10) (h : MemsAt P d w v ms) :
    Calls Try.prog 35 #[.agg #[v]] w fun e w' => PairOk d ms e ∧ Below w.heap.size w w' := by
  obtain ⟨A, c, rfl⟩ := h.slice
  have hb1 : Below w.heap.size w (w.alloc (.cells #[.slice A ms.length c] 27)) := balloc (bref w) _
  have k0 : (w.alloc (.cells #[.slice A ms.length c] 27)).heap[w.heap.size]? = some (.cells #[.slice A ms.length c] 27 (0, 0)) := alloc_at rfl
  have H := Lib.hid (h.below hb1)
  have HB := Lib.hid hb1
  have K0 := Lib.hid k0
  clear h hb1 k0
  go_enter Try.func35, Try.ntmps35
  go_upto_region 1 with fail
  generalize w.alloc (.cells #[.slice A ms.length c] 27) = W1 at *
  generalize hg : w.heap.size = g at *
  have HG := Lib.hid hg
  clear hg
  have c0 : W1.cell? ⟨g, 0, none⟩ = some (.slice A ms.length c) := cell_of_row _ _ 0 _ _ (0, 0) K0.out
  have hgl := cell_lt c0
  have HBw := Lib.hid (show Below w.heap.size w W1 by rw [HG.out]; exact HB.out)
  have hp2 : 2 ^ ms.length ≤ 2 ^ 10 := Nat.pow_le_pow_right (by omega) hl
  have hpp : 1 ≤ 2 ^ ms.length := Nat.one_le_pow _ _ (by omega)
  clear c0
  go_wp2_with fail
  go_loopw [5, 6] (fun sv kv W => ∃ (s : Nat) (ok : Bool), sv = .int .i64 (s : Int) ∧ kv = .bool ok ∧ s < 2 ^ ms.length ∧ Hid (ok = true → ∃ i, (ordN ms.length)[i]? = some s ∧ ∀ j t : Nat, j < i → (ordN ms.length)[j]? = some t → ¬ Apart d ms t) ∧ Hid (ok = false → ∀ t, t < 2 ^ ms.length → ¬ Apart d ms t) ∧ Hid (Below W1.heap.size W1 W)) (fun sv kv _ => match kv with | .bool b => boolM b (intOf sv).toNat | _ => 0)
  case atStart => exact ⟨0, true, rfl, rfl, hpp, Lib.hid (fun _ => ⟨0, ord_zero _, fun j t hj => by omega⟩), Lib.hid (fun h => by cases h), Lib.hid (bref _)⟩
  case round =>
    obtain ⟨s, ok, rfl, rfl, hs, hT, hF, hB⟩ := hrel
    have c1 : wr.cell? ⟨g, 0, none⟩ = some (.slice A ms.length c) := (hB.out.cell hgl).trans (cell_of_row _ _ 0 _ _ (0, 0) K0.out)
    have hs10 : s < 1024 := by omega
    cases ok
    · have HZ := Lib.hid (And.intro (hF.out rfl) (bstep HBw.out hB.out))
      go_wp2_with fail
      go_ret3
      exact ⟨Or.inr ⟨rfl, HZ.out.1⟩, HZ.out.2⟩
    · obtain ⟨i, hi, hno⟩ := hT.out rfl
      have HI := Lib.hid hi
      have HNO := Lib.hid hno
      clear hi hno hT hF
      go_wp2_with fail
      refine (quorum_run _ d ms _ s _ hl hs10 (H.out.below hB.out)).mono ?_
      rintro e W3 ⟨q, rfl, hq, hb3⟩
      have HB3 := Lib.hid (bstep hB.out hb3)
      have c3 := (hb3.cell (cell_lt c1)).trans c1
      clear hb3 c1
      cases q
      · have HNA := Lib.hid (show ¬ Apart d ms s from fun h => by
          have := hq.2 h.1; cases this)
        clear hq
        go_wp2_with fail
        refine (pnext_run s ms.length hl hs _).mono ?_
        rintro e w9 ⟨rfl, rfl⟩
        have hst := ord_step ms.length hl i s HI.out
        rcases Nat.lt_or_ge (nextN ms.length s) (2 ^ ms.length) with hnx | hnx
        · have HE := Lib.hid (show nextR ms.length s = .returned (.tuple #[.int .i64 (nextN ms.length s : Int), .bool true]) by
            unfold nextR; rw [if_neg (show ¬ 2 ^ ms.length ≤ nextN ms.length s by omega), decide_eq_false (show ¬ 2 ^ ms.length ≤ nextN ms.length s by omega)]; rfl)
          have HK := Lib.hid (keyN_next ms.length hl s hs hnx)
          have HKL := Lib.hid (keyN_lt _ (show nextN ms.length s < 1024 by omega))
          have HST := Lib.hid (show ∃ i, (ordN ms.length)[i]? = some (nextN ms.length s) ∧ ∀ j t : Nat, j < i → (ordN ms.length)[j]? = some t → ¬ Apart d ms t from ⟨i + 1, hst.1 hnx, fun j t hj ht => by
            rcases Nat.lt_or_ge j i with h1 | h1
            · exact HNO.out j t h1 ht
            · obtain rfl : j = i := by omega
              rw [HI.out] at ht
              obtain rfl : s = t := Option.some.inj ht
              exact HNA.out⟩)
          rw [HE.out]
          clear hst
          generalize nextN ms.length s = sn at *
          go_wp2_with fail
          go_roundw
          case rel => exact ⟨sn, true, rfl, rfl, hnx, Lib.hid (fun _ => HST.out), Lib.hid (fun h => by cases h), HB3⟩
          case measure =>
            have h1 := HK.out
            have h2 := HKL.out
            show 20001 - keyN ((sn : Int)).toNat < 20001 - keyN ((s : Int)).toNat
            rw [Int.toNat_natCast, Int.toNat_natCast]
            omega
        · have HE := Lib.hid (show nextR ms.length s = .returned (.tuple #[.int .i64 ((0 : Nat) : Int), .bool false]) by
            unfold nextR; rw [if_pos (show 2 ^ ms.length ≤ nextN ms.length s by omega), decide_eq_true (show 2 ^ ms.length ≤ nextN ms.length s by omega)]; rfl)
          have HKL := Lib.hid (keyN_lt s hs10)
          have HALL := Lib.hid (show ∀ t, t < 2 ^ ms.length → ¬ Apart d ms t from fun t ht => by
            obtain ⟨j, hj, he⟩ := List.getElem_of_mem (ord_mem ms.length hl t ht)
            have hj2 : (ordN ms.length)[j]? = some t := by rw [List.getElem?_eq_getElem hj, he]
            have hlen := ord_len ms.length
            have hil := hst.2 hnx
            rcases Nat.lt_or_ge j i with h1 | h1
            · exact HNO.out j t h1 hj2
            · obtain rfl : j = i := by omega
              rw [HI.out] at hj2
              obtain rfl : s = t := Option.some.inj hj2
              exact HNA.out)
          rw [HE.out]
          clear hst
          go_wp2_with fail
          go_roundw
          case rel => exact ⟨0, false, rfl, rfl, hpp, Lib.hid (fun h => by cases h), Lib.hid (fun _ => HALL.out), HB3⟩
          case measure =>
            have h2 := HKL.out
            show 0 < 20001 - keyN ((s : Int)).toNat
            rw [Int.toNat_natCast]
            omega
      · have HQ := Lib.hid (show IsQ d ms s from hq.1 rfl)
        clear hq
        go_upto_region 5 with fail
        obtain ⟨n1, hn1⟩ : ∃ n1, 2 ^ ms.length - 1 = n1 := ⟨_, rfl⟩
        have HN1 := Lib.hid hn1
        have hpL : 2 ^ ms.length ≤ 2 ^ 10 := Nat.pow_le_pow_right (by omega) hl
        have hn1l : n1 < 1024 := by omega
        have hO := andNot_nat n1 s hn1l (by omega)
        have hOl := outS_lt ms.length s hl
        obtain ⟨O, hOq⟩ : ∃ O, outS ms.length s = O := ⟨_, rfl⟩
        have HO := Lib.hid hOq
        rw [show n1 ^^^ (n1 &&& s) = O by rw [← hOq, ← hn1]; rfl] at hO
        rw [hOq] at hOl
        clear hn1 hOq hpL
        have hS := Lib.hid (keepMP (⟨c3, H.out.below HB3.out⟩) (bdrew' W3))
        refine wp_region_noPanic ?_
        refine wp_region_held_drew (S := fun W => W.cell? ⟨g, 0, none⟩ = some (.slice A ms.length c) ∧ MemsAt P d W (.slice A ms.length c) ms) (by kernel_rfl) hS.out (fun hHeld => ?_)
        refine take_d (some 21) (i := 0) (v := ?_) rfl rfl (by kernel_rfl) (by kernel_rfl) (by kernel_rfl) (fun _ _ _ h => h) (Or.inl ⟨by rfl, ?_⟩) (by assumption) ?_
        rotate_left
        · intro w hSw; (try dsimp only at hSw); go_simp; (try with_reducible rfl)
        try simp only [Act.put, List.setIfInBounds_toArray, List.set_cons_zero, List.set_cons_succ]
        refine take_d (some 22) (i := 1) (v := ?_) rfl rfl (by kernel_rfl) (by kernel_rfl) (by kernel_rfl) (fun _ _ _ h => h) (Or.inl ⟨by rfl, ?_⟩) (by assumption) ?_
        rotate_left
        · intro w hSw; (try dsimp only at hSw); go_simp; (try with_reducible rfl)
        try simp only [Act.put, List.setIfInBounds_toArray, List.set_cons_zero, List.set_cons_succ]
        refine take_d (some 24) (i := 3) (v := ?_) rfl rfl (by kernel_rfl) (by kernel_rfl) (by kernel_rfl) (fun _ _ _ h => h) (Or.inl ⟨by rfl, ?_⟩) (by assumption) ?_
        rotate_left
        · intro w hSw; (try dsimp only at hSw); go_simp; (try with_reducible rfl)
        try simp only [Act.put, List.setIfInBounds_toArray, List.set_cons_zero, List.set_cons_succ]
        refine wpAnyH_ready (rs := [2]) (by kernel_rfl) (by simp) ?_
        refine AllReadyH.cons rfl (fun K hK => ?_) AllReadyH.nil
        go_simp
        refine (members_run A ms.length c hl _).mono ?_; rintro e WK ⟨rfl, hbK⟩; rw [HN1.out]; have hSK := keepMP (by assumption) hbK
        go_wp2_with fail
        refine hK.out _ _ ?_ (fun hHeld => ?_)
        · exact hSK
        clear hK K
        try simp only [Act.put, List.setIfInBounds_toArray, List.set_cons_zero, List.set_cons_succ]
        refine take_d (some 25) (i := 4) (v := ?_) rfl rfl (by kernel_rfl) (by kernel_rfl) (by kernel_rfl) (fun _ _ _ h => h) (Or.inl ⟨by rfl, ?_⟩) (by assumption) ?_
        rotate_left
        · intro w hSw; (try dsimp only at hSw); go_simp; (try with_reducible rfl)
        try simp only [Act.put, List.setIfInBounds_toArray, List.set_cons_zero, List.set_cons_succ]
        refine wpAnyH_ready (rs := [5]) (by kernel_rfl) (by simp) ?_
        refine AllReadyH.cons rfl (fun K hK => ?_) AllReadyH.nil
        go_simp
        refine (greatest_run _ d ms _ O _ hl hOl (memsM (by assumption))).mono ?_; rintro e WK2 ⟨G, rfl, hGl, hgr, hbK2⟩; have hSK := keepMP (by assumption) hbK2
        go_wp2_with fail
        refine hK.out _ _ ?_ (fun hHeld => ?_)
        · exact hSK
        clear hK K
        try simp only [Act.put, List.setIfInBounds_toArray, List.set_cons_zero, List.set_cons_succ]
        refine take_d (some 7) (i := 6) (v := ?_) rfl rfl (by kernel_rfl) (by kernel_rfl) (by kernel_rfl) (fun _ _ _ h => h) (Or.inl ⟨by rfl, ?_⟩) (by assumption) ?_
        rotate_left
        · intro w hSw; (try dsimp only at hSw); go_simp; (try with_reducible rfl)
        try simp only [Act.put, List.setIfInBounds_toArray, List.set_cons_zero, List.set_cons_succ]
        refine wpAnyH_done (by kernel_rfl) ?_ _
        refine NoPanic.normal ?_
        rw [← HO.out] at hgr
        have HGR := Lib.hid hgr
        have HB5 := Lib.hid (bstep HB3.out (bstep (bstep (bdrew' W3) hbK) hbK2))
        have HAP := Lib.hid (apart_gr hGl hgr)
        have c5 := hSK.1
        clear hSK hHeld hgr hS hO hbK hbK2 c3
        by_cases hg0 : G = 0
        · have hz : ((G : Int) != 0) = false := by rw [hg0]; rfl
          have HNA := Lib.hid (show ¬ Apart d ms s from fun h => HAP.out.1 h.2 hg0)
          clear hg0
          go_wp2_with fail
          refine (pnext_run s ms.length hl hs _).mono ?_
          rintro e w9 ⟨rfl, rfl⟩
          have hst := ord_step ms.length hl i s HI.out
          rcases Nat.lt_or_ge (nextN ms.length s) (2 ^ ms.length) with hnx | hnx
          · have HE := Lib.hid (show nextR ms.length s = .returned (.tuple #[.int .i64 (nextN ms.length s : Int), .bool true]) by
              unfold nextR; rw [if_neg (show ¬ 2 ^ ms.length ≤ nextN ms.length s by omega), decide_eq_false (show ¬ 2 ^ ms.length ≤ nextN ms.length s by omega)]; rfl)
            have HK := Lib.hid (keyN_next ms.length hl s hs hnx)
            have HKL := Lib.hid (keyN_lt _ (show nextN ms.length s < 1024 by omega))
            have HST := Lib.hid (show ∃ i, (ordN ms.length)[i]? = some (nextN ms.length s) ∧ ∀ j t : Nat, j < i → (ordN ms.length)[j]? = some t → ¬ Apart d ms t from ⟨i + 1, hst.1 hnx, fun j t hj ht => by
              rcases Nat.lt_or_ge j i with h1 | h1
              · exact HNO.out j t h1 ht
              · obtain rfl : j = i := by omega
                rw [HI.out] at ht
                obtain rfl : s = t := Option.some.inj ht
                exact HNA.out⟩)
            rw [HE.out]
            clear hst
            generalize nextN ms.length s = sn at *
            go_wp2_with fail
            go_roundw
            case rel => exact ⟨sn, true, rfl, rfl, hnx, Lib.hid (fun _ => HST.out), Lib.hid (fun h => by cases h), HB5⟩
            case measure =>
              have h1 := HK.out
              have h2 := HKL.out
              show 20001 - keyN ((sn : Int)).toNat < 20001 - keyN ((s : Int)).toNat
              rw [Int.toNat_natCast, Int.toNat_natCast]
              omega
          · have HE := Lib.hid (show nextR ms.length s = .returned (.tuple #[.int .i64 ((0 : Nat) : Int), .bool false]) by
              unfold nextR; rw [if_pos (show 2 ^ ms.length ≤ nextN ms.length s by omega), decide_eq_true (show 2 ^ ms.length ≤ nextN ms.length s by omega)]; rfl)
            have HKL := Lib.hid (keyN_lt s hs10)
            have HALL := Lib.hid (show ∀ t, t < 2 ^ ms.length → ¬ Apart d ms t from fun t ht => by
              obtain ⟨j, hj, he⟩ := List.getElem_of_mem (ord_mem ms.length hl t ht)
              have hj2 : (ordN ms.length)[j]? = some t := by rw [List.getElem?_eq_getElem hj, he]
              have hlen := ord_len ms.length
              have hil := hst.2 hnx
              rcases Nat.lt_or_ge j i with h1 | h1
              · exact HNO.out j t h1 hj2
              · obtain rfl : j = i := by omega
                rw [HI.out] at hj2
                obtain rfl : s = t := Option.some.inj hj2
                exact HNA.out)
            rw [HE.out]
            clear hst
            go_wp2_with fail
            go_roundw
            case rel => exact ⟨0, false, rfl, rfl, hpp, Lib.hid (fun h => by cases h), Lib.hid (fun _ => HALL.out), HB5⟩
            case measure =>
              have h2 := HKL.out
              show 0 < 20001 - keyN ((s : Int)).toNat
              rw [Int.toNat_natCast]
              omega
        · have hz : ((G : Int) != 0) = true := by simpa using hg0
          have HA := Lib.hid (show Apart d ms s from ⟨HQ.out, HAP.out.2 hg0⟩)
          have HZ := Lib.hid (bstep HBw.out HB5.out)
          clear hg0
          go_wp2_with fail
          go_ret3
          exact ⟨Or.inl ⟨i, s, G, rfl, HI.out, HA.out, HGR.out, hGl, HNO.out⟩, HZ.out⟩

end Go.Proofs.Ytfghnkgllmofgaa
