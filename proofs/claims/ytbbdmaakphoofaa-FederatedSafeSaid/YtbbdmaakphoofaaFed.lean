/- Who blocks a member, who may accept or confirm: the contracts of blocking.Blocks, federated.Accepts, federated.Confirms. -/
import Derived.Test.YtbbdmaakphoofaaOrdersMath
import Derived.Test.YtbbdmaakphoofaaHeld
namespace Go.Proofs.Ytbbdmaakphoofaa
set_option linter.unusedVariables false
set_option linter.unusedSimpArgs false
open Go.RowKit

/-- A set without a node. -/
def offS (s k : Nat) : Nat := s ^^^ (s &&& 2 ^ k)
theorem offS_bit (s k j : Nat) : (offS s k).testBit j = (s.testBit j && j != k) := by
  unfold offS
  rw [Nat.testBit_xor, Nat.testBit_and, Nat.testBit_two_pow]
  by_cases h : k = j
  · subst h; cases s.testBit k <;> simp
  · have h1 : j ≠ k := fun e => h e.symm
    have h2 : (j != k) = true := by simpa using h1
    rw [h2, decide_eq_false h]
    cases s.testBit j <;> rfl
theorem lt_of_bits {a b n : Nat} (h : ∀ k, a.testBit k = true → b.testBit k = true) (hb : b < n) : a < n := by
  have e : a &&& b = a := by
    apply Nat.eq_of_testBit_eq
    intro k
    rw [Nat.testBit_and]
    cases ha : a.testBit k
    · rfl
    · rw [h k ha]; rfl
  rw [← e]
  exact Nat.lt_of_le_of_lt Nat.and_le_right hb
theorem offS_lt {s k n : Nat} (h : s < n) : offS s k < n := lt_of_bits (fun j hj => by rw [offS_bit, Bool.and_eq_true] at hj; exact hj.1) h
theorem off_fact (s k : Nat) (hs : s < 1024) (hk : k < 10) : bits .andNot .i64 (s : Int) (wrap64 (2 ^ k)) = ((offS s k : Nat) : Int) := by
  have all : ∀ s : Fin 1024, ∀ k : Fin 10, bits .andNot .i64 (s.val : Int) (wrap64 (2 ^ k.val)) = ((offS s.val k.val : Nat) : Int) := by decide +kernel
  exact all ⟨s, hs⟩ ⟨k, hk⟩
theorem off_fact' (s k : Nat) (hs : s < 1024) (hk : k < 10) : bits .andNot .i64 (s : Int) (IntKind.i64.wrap (2 ^ k)) = ((offS s k : Nat) : Int) := by
  have all : ∀ s : Fin 1024, ∀ k : Fin 10, bits .andNot .i64 (s.val : Int) (IntKind.i64.wrap (2 ^ k.val)) = ((offS s.val k.val : Nat) : Int) := by decide +kernel
  exact all ⟨s, hs⟩ ⟨k, hk⟩
/-- Does s block member k? -/
def blkM (d : Nat) (ms : List Mem) (s k : Nat) : Bool := (declS ms ms.length).testBit k && blkB d (trOf ms k) ((offS s k : Nat) : Int)
theorem hasB_compl {n : Nat} (hn : n < 1024) (x : Int) : hasB (1023 - (n : Int)) x = (nodeB x && !n.testBit x.toNat) := by
  have h1 : setB (1023 - (n : Int)) = true := setB_iff.2 ⟨by omega, by omega⟩
  have e : (1023 - (n : Int)).toNat = 2 ^ 10 - (n + 1) := by omega
  unfold hasB
  rw [h1, e, Bool.true_and, Nat.testBit_two_pow_sub_succ (by omega)]
  cases hx : nodeB x
  · rfl
  · obtain ⟨h0, h2⟩ := nodeB_iff.1 hx
    have h3 : decide (x.toNat < 10) = true := decide_eq_true (by omega)
    rw [h3]; rfl
theorem blkB_sub {d : Nat} {T : Tree} {a b : Nat} (hb : b < 1024) (h : Sub a b) (h1 : blkB d T (a : Int) = true) : blkB d T (b : Int) = true := by
  have ha : a < 1024 := lt_of_bits h hb
  unfold blkB at h1 ⊢
  rw [Bool.and_eq_true] at h1 ⊢
  refine ⟨setB_iff.2 ⟨by omega, by omega⟩, ?_⟩
  have h2 := h1.2
  cases hx : holdsT d (hasB (1023 - (b : Int))) T
  · rfl
  · rw [holdsT_monoA (p := hasB (1023 - (b : Int))) (q := hasB (1023 - (a : Int))) (fun x hx => ?_) d T hx] at h2
    · cases h2
    · rw [hasB_compl hb, Bool.and_eq_true] at hx
      rw [hasB_compl ha, Bool.and_eq_true]
      refine ⟨hx.1, ?_⟩
      cases ht : a.testBit x.toNat
      · rfl
      · rw [h _ ht] at hx; simp at hx
theorem blkM_sub {d : Nat} {ms : List Mem} {a b k : Nat} (hb : b < 1024) (h : Sub a b) (h1 : blkM d ms a k = true) : blkM d ms b k = true := by
  unfold blkM at h1 ⊢
  rw [Bool.and_eq_true] at h1 ⊢
  refine ⟨h1.1, blkB_sub (offS_lt hb) (fun j hj => ?_) h1.2⟩
  rw [offS_bit, Bool.and_eq_true] at hj ⊢
  exact ⟨h j hj.1, hj.2⟩

/-- Is k in a closed set in S? -/
noncomputable def rdyB (d : Nat) (ms : List Mem) (S k : Nat) : Bool := @decide (∃ Q, Q < 1024 ∧ Sub Q S ∧ Closed d ms Q ∧ Q.testBit k = true) (Classical.propDecidable _)
theorem rdyB_iff {d : Nat} {ms : List Mem} {S k : Nat} : rdyB d ms S k = true ↔ ∃ Q, Q < 1024 ∧ Sub Q S ∧ Closed d ms Q ∧ Q.testBit k = true := by unfold rdyB; exact @decide_eq_true_iff _ (Classical.propDecidable _)
theorem rdyB_gr {d : Nat} {ms : List Mem} {S G k : Nat} (hG : G < 1024) (h : IsGr d ms S G) : rdyB d ms S k = G.testBit k := by
  rw [Bool.eq_iff_iff, rdyB_iff]
  exact ⟨fun ⟨Q, h1, h2, h3, h4⟩ => h.most Q h1 h2 h3 k h4, fun h1 => ⟨G, hG, h.sub, h.closed, h1⟩⟩
theorem rdyB_sub {d : Nat} {ms : List Mem} {S S' k : Nat} (h : Sub S S') (h1 : rdyB d ms S k = true) : rdyB d ms S' k = true := by
  obtain ⟨Q, h2, h3, h4, h5⟩ := rdyB_iff.1 h1
  exact rdyB_iff.2 ⟨Q, h2, fun j hj => h j (h3 j hj), h4, h5⟩
/-- May k accept, by votes and acceptances? -/
noncomputable def accB (d : Nat) (ms : List Mem) (k a b : Nat) : Bool := blkM d ms b k || rdyB d ms ((a ||| b) &&& declS ms ms.length) k
noncomputable def cnfB (d : Nat) (ms : List Mem) (k b : Nat) : Bool := rdyB d ms (b &&& declS ms ms.length) k
theorem sub_and_and {a b D : Nat} (h : Sub a b) : Sub (a &&& D) (b &&& D) := fun k hk => by
  rw [Nat.testBit_and, Bool.and_eq_true] at hk ⊢
  exact ⟨h k hk.1, hk.2⟩
theorem accB_sub {d : Nat} {ms : List Mem} {k a b x y : Nat} (hy : y < 1024) (h1 : Sub a x) (h2 : Sub b y) (h : accB d ms k a b = true) : accB d ms k x y = true := by
  unfold accB at h ⊢
  rw [Bool.or_eq_true] at h ⊢
  rcases h with h | h
  · exact .inl (blkM_sub hy h2 h)
  · refine .inr (rdyB_sub (sub_and_and (fun j hj => ?_)) h)
    rw [Nat.testBit_or, Bool.or_eq_true] at hj ⊢
    exact hj.elim (fun h => .inl (h1 j h)) (fun h => .inr (h2 j h))
theorem cnfB_sub {d : Nat} {ms : List Mem} {k b y : Nat} (h : Sub b y) (h1 : cnfB d ms k b = true) : cnfB d ms k y = true := rdyB_sub (sub_and_and h) h1
theorem cnf_acc1 {d : Nat} {ms : List Mem} {k b : Nat} (h1 : cnfB d ms k b = true) : accB d ms k 0 b = true := by
  unfold accB
  rw [Bool.or_eq_true, Nat.zero_or]
  exact .inr h1
theorem cnf_acc2 {d : Nat} {ms : List Mem} {k b : Nat} (h1 : cnfB d ms k b = true) : accB d ms k b 0 = true := by
  unfold accB
  rw [Bool.or_eq_true, Nat.or_zero]
  exact .inr h1
theorem sub_orL {a b : Nat} : Sub a (a ||| b) := fun k hk => by rw [Nat.testBit_or, hk]; rfl

set_option maxHeartbeats 400000 in
theorem fisNode_run (k : Nat) (hk : k < 10) (w : World) : Calls Try.prog 88 #[.int .i64 (k : Int)] w fun e w' => e = .returned (.bool true) ∧ w = w' := by
  have h0 : (0 : Int) ≤ (k : Int) := by omega
  have h1 : (k : Int) < 10 := by omega
  go_enter Try.func88, Try.ntmps88
  go_wp2
  go_ret
  exact ⟨rfl, rfl⟩
set_option maxHeartbeats 400000 in
theorem fisSet_run (s : Nat) (hs : s < 1024) (w : World) : Calls Try.prog 57 #[.int .i64 (s : Int)] w fun e w' => e = .returned (.bool true) ∧ w = w' := by
  have h0 : (0 : Int) ≤ (s : Int) := by omega
  have h1 : (s : Int) < 1024 := by omega
  go_enter Try.func57, Try.ntmps57
  go_wp2
  go_ret
  exact ⟨rfl, rfl⟩

set_option maxRecDepth 100000 in
set_option maxHeartbeats 2000000 in
theorem blocks_run (P : Nat → Prop) (d : Nat) (ms : List Mem) (v : Value) (k s : Nat) (w : World) (hl : ms.length ≤ 10) (hs : s < 1024) (hk : k < 10) (h : MemsAt P d w v ms) :
    Calls Try.prog 49 #[.agg #[v], .int .i64 (k : Int), .int .i64 (s : Int)] w fun e w' => e = .returned (.bool (blkM d ms s k)) ∧ Below w.heap.size w w' := by
  obtain ⟨A, c, rfl⟩ := h.slice
  have hb1 : Below w.heap.size w (w.alloc (.cells #[.slice A ms.length c] 27)) := balloc (bref w) _
  have k0 : (w.alloc (.cells #[.slice A ms.length c] 27)).heap[w.heap.size]? = some (.cells #[.slice A ms.length c] 27 (0, 0)) := alloc_at rfl
  have H := Lib.hid (h.below hb1)
  have HB := Lib.hid hb1
  have K0 := Lib.hid k0
  have hsv := Lib.hid (show setB (s : Int) = true from setB_iff.2 ⟨by omega, by omega⟩)
  have hdl := declS_lt ms ms.length hl
  clear h hb1 k0
  go_enter Try.func49, Try.ntmps49
  go_upto_region 1 with fail
  generalize w.alloc (.cells #[.slice A ms.length c] 27) = W1 at *
  generalize hg : w.heap.size = g at *
  have HG := Lib.hid hg
  clear hg
  have c0 : W1.cell? ⟨g, 0, none⟩ = some (.slice A ms.length c) := cell_of_row _ _ 0 _ _ (0, 0) K0.out
  have hgl := cell_lt c0
  have HBw := Lib.hid (show Below w.heap.size w W1 by rw [HG.out]; exact HB.out)
  go_wp2_with fail
  refine (setValid_run _ _).mono ?_
  rintro e w2 ⟨rfl, rfl⟩
  rw [hsv.out]
  go_wp2_with fail
  refine (declared_run _ d ms _ _ hl H.out).mono ?_
  rintro e W2 ⟨rfl, hb2⟩
  have HB2 := Lib.hid hb2
  have d0 := (hb2.cell hgl).trans c0
  clear hb2 c0
  have HBM := Lib.hid (show blkM d ms s k = ((declS ms ms.length).testBit k && blkB d (trOf ms k) ((offS s k : Nat) : Int)) from rfl)
  have HDB := Lib.hid (fun (h : (declS ms ms.length).testBit k = true) => declS_bit h)
  generalize declS ms ms.length = D at *
  have hbit := hasB_bit hdl hk
  cases hb : D.testBit k
  · rw [hb] at hbit HBM
    go_wp2_with fail
    refine (has_run _ _ _).mono ?_
    rintro e w3 ⟨rfl, rfl⟩
    rw [hbit]
    go_wp2_with fail
    go_ret
    exact ⟨by rw [HBM.out]; rfl, bstep HBw.out HB2.out⟩
  · have hkm := HDB.out hb
    rw [hb] at hbit HBM
    obtain ⟨m, hm⟩ : ∃ m, ms[k]? = some m := ⟨_, List.getElem?_eq_getElem hkm⟩
    obtain ⟨bm, om, t, A1, n1, c1, A2, n2, c2, rfl, hP, hbl, e0, e1, e2, e3, hT⟩ := memBox (H.out.below HB2.out) hm
    have htr : trOf ms k = m.2 := by unfold trOf; rw [List.getD_eq_getElem?_getD, hm]; rfl
    rw [htr] at HBM
    obtain ⟨dec, T⟩ := m
    have HOFF := off_fact' s k hs hk
    have hki : (k : Int) < (ms.length : Int) := by omega
    have hk0 : (0 : Int) ≤ (k : Int) := by omega
    have hk64 : ¬ (64 : Int) ≤ (k : Int) := by omega
    clear hm htr hb e0
    go_wp2_with fail
    refine (has_run _ _ _).mono ?_
    rintro e w3 ⟨rfl, rfl⟩
    rw [hbit]
    go_upto_region 3 with fail
    have hdr : Below W2.heap.size W2 W2.drew := ⟨rfl, rfl, rfl, Nat.le_refl _, fun _ _ => rfl⟩
    have hS := Lib.hid (show W2.drew.cell? ⟨g, 0, none⟩ = some (.slice (some ⟨bm, om, none⟩) ms.length c) ∧ W2.drew.cell? ⟨bm, om + k * 4 + 1, none⟩ = some (.int .i64 t) ∧ W2.drew.cell? ⟨bm, om + k * 4 + 2, none⟩ = some (.slice A1 n1 c1) ∧ W2.drew.cell? ⟨bm, om + k * 4 + 3, none⟩ = some (.slice A2 n2 c2) ∧ TAt P d W2.drew (.int .i64 t) (.slice A1 n1 c1) (.slice A2 n2 c2) T ∧ Below w.heap.size w W2.drew from
      ⟨d0, e1, e2, e3, hT.below hdr, bstep (bstep HBw.out HB2.out) hdr⟩)
    clear hT hdr
    go_region_held3 (fun W => W.cell? ⟨g, 0, none⟩ = some (.slice (some ⟨bm, om, none⟩) ms.length c) ∧ W.cell? ⟨bm, om + k * 4 + 1, none⟩ = some (.int .i64 t) ∧ W.cell? ⟨bm, om + k * 4 + 2, none⟩ = some (.slice A1 n1 c1) ∧ W.cell? ⟨bm, om + k * 4 + 3, none⟩ = some (.slice A2 n2 c2) ∧ TAt P d W (.int .i64 t) (.slice A1 n1 c1) (.slice A2 n2 c2) T ∧ Below w.heap.size w W) (first | exact hS.out | exact hSK | assumption)
      (first
        | (go_at_call 78; refine (blocked_run _ d T _ _ _ _ _ (by first | exact hHeld.2.2.2.2.1 | exact hS.out.2.2.2.2.1)).mono ?_; rintro e WK ⟨rfl, hbK⟩; have hSK := (show WK.cell? ⟨g, 0, none⟩ = some (.slice (some ⟨bm, om, none⟩) ms.length c) ∧ WK.cell? ⟨bm, om + k * 4 + 1, none⟩ = some (.int .i64 t) ∧ WK.cell? ⟨bm, om + k * 4 + 2, none⟩ = some (.slice A1 n1 c1) ∧ WK.cell? ⟨bm, om + k * 4 + 3, none⟩ = some (.slice A2 n2 c2) ∧ TAt P d WK (.int .i64 t) (.slice A1 n1 c1) (.slice A2 n2 c2) T ∧ Below w.heap.size w WK from ⟨(hbK.cell (cell_lt hS.out.1)).trans hS.out.1, (hbK.cell (cell_lt hS.out.2.1)).trans hS.out.2.1, (hbK.cell (cell_lt hS.out.2.2.1)).trans hS.out.2.2.1, (hbK.cell (cell_lt hS.out.2.2.2.1)).trans hS.out.2.2.2.1, hS.out.2.2.2.2.1.below hbK, bstep hS.out.2.2.2.2.2 hbK⟩)))
    all_goals
      have HZ := Lib.hid hSK.2.2.2.2.2
      clear hSK
      go_wp2_with fail
      go_ret
      exact ⟨by rw [HBM.out]; rfl, HZ.out⟩

set_option maxHeartbeats 2000000 in
theorem ready_run (P : Nat → Prop) (d : Nat) (ms : List Mem) (v : Value) (k s : Nat) (w : World) (hl : ms.length ≤ 10) (hs : s < 1024) (hk : k < 10) (h : MemsAt P d w v ms) :
    Calls Try.prog 58 #[.agg #[v], .int .i64 (k : Int), .int .i64 (s : Int)] w fun e w' => e = .returned (.bool (rdyB d ms (s &&& declS ms ms.length) k)) ∧ Below w.heap.size w w' := by
  obtain ⟨A, c, rfl⟩ := h.slice
  have hb1 : Below w.heap.size w (w.alloc (.cells #[.slice A ms.length c] 27)) := balloc (bref w) _
  have H := Lib.hid (h.below hb1)
  have HB := Lib.hid hb1
  have hk0 : (0 : Int) ≤ (k : Int) := by omega
  clear h hb1
  go_enter Try.func58, Try.ntmps58
  go_wp2_with fail
  refine (fisNode_run k hk _).mono ?_
  rintro e w2 ⟨rfl, rfl⟩
  go_wp2_with fail
  refine (greatest_run _ d ms _ s _ hl hs H.out).mono ?_
  rintro e w3 ⟨G, rfl, hG, hgr, hb3⟩
  have HQ := Lib.hid (rdyB_gr (k := k) hG hgr)
  have HBT := bit_fact G k (by omega)
  have HB3 := Lib.hid (bstep HB.out hb3)
  clear hgr hb3
  go_wp2_with fail
  go_ret
  exact ⟨by rw [HQ.out]; simp, HB3.out⟩

set_option maxHeartbeats 2000000 in
theorem confirms_run (P : Nat → Prop) (d : Nat) (ms : List Mem) (v : Value) (k s : Nat) (w : World) (hl : ms.length ≤ 10) (hs : s < 1024) (hk : k < 10) (h : MemsAt P d w v ms) :
    Calls Try.prog 22 #[.agg #[v], .int .i64 (k : Int), .int .i64 (s : Int)] w fun e w' => e = .returned (.bool (cnfB d ms k s)) ∧ Below w.heap.size w w' := by
  obtain ⟨A, c, rfl⟩ := h.slice
  have hb1 : Below w.heap.size w (w.alloc (.cells #[.slice A ms.length c] 27)) := balloc (bref w) _
  have H := Lib.hid (h.below hb1)
  have HB := Lib.hid hb1
  clear h hb1
  go_enter Try.func22, Try.ntmps22
  go_wp2_with fail
  refine (fisSet_run s hs _).mono ?_
  rintro e w2 ⟨rfl, rfl⟩
  go_wp2_with fail
  refine (ready_run _ d ms _ k s _ hl hs hk H.out).mono ?_
  rintro e w3 ⟨rfl, hb3⟩
  have HB3 := Lib.hid (bstep HB.out hb3)
  have HC := Lib.hid (show cnfB d ms k s = rdyB d ms (s &&& declS ms ms.length) k from rfl)
  clear hb3
  generalize rdyB d ms (s &&& declS ms ms.length) k = b at *
  go_wp2_with fail
  go_ret
  exact ⟨by rw [HC.out]; rfl, HB3.out⟩

set_option maxHeartbeats 2000000 in
theorem accepts_run (P : Nat → Prop) (d : Nat) (ms : List Mem) (v : Value) (k a b : Nat) (w : World) (hl : ms.length ≤ 10) (ha : a < 1024) (hb : b < 1024) (hk : k < 10) (h : MemsAt P d w v ms) :
    Calls Try.prog 59 #[.agg #[v], .int .i64 (k : Int), .int .i64 (a : Int), .int .i64 (b : Int)] w fun e w' => e = .returned (.bool (accB d ms k a b)) ∧ Below w.heap.size w w' := by
  obtain ⟨A, c, rfl⟩ := h.slice
  have hb1 : Below w.heap.size w (w.alloc (.cells #[.slice A ms.length c] 27)) := balloc (bref w) _
  have k0 : (w.alloc (.cells #[.slice A ms.length c] 27)).heap[w.heap.size]? = some (.cells #[.slice A ms.length c] 27 (0, 0)) := alloc_at rfl
  have H := Lib.hid (h.below hb1)
  have HB := Lib.hid hb1
  have K0 := Lib.hid k0
  have hor : a ||| b < 1024 := Nat.or_lt_two_pow (n := 10) ha hb
  have HOR := i64_or_nat a b (by omega) (by omega)
  clear h hb1 k0
  go_enter Try.func59, Try.ntmps59
  go_upto_region 1 with fail
  generalize w.alloc (.cells #[.slice A ms.length c] 27) = W1 at *
  generalize hg : w.heap.size = g at *
  have HG := Lib.hid hg
  clear hg
  have c0 : W1.cell? ⟨g, 0, none⟩ = some (.slice A ms.length c) := cell_of_row _ _ 0 _ _ (0, 0) K0.out
  have hgl := cell_lt c0
  have HBw := Lib.hid (show Below w.heap.size w W1 by rw [HG.out]; exact HB.out)
  go_wp2_with fail
  refine (fisSet_run a ha _).mono ?_
  rintro e w2 ⟨rfl, rfl⟩
  go_wp2_with fail
  refine (fisSet_run b hb _).mono ?_
  rintro e w2 ⟨rfl, rfl⟩
  go_wp2_with fail
  refine (blocks_run _ d ms _ k b _ hl hb hk H.out).mono ?_
  rintro e W2 ⟨rfl, hb2⟩
  have HB2 := Lib.hid hb2
  have d0 := (hb2.cell hgl).trans c0
  have HACC := Lib.hid (show accB d ms k a b = (blkM d ms b k || rdyB d ms ((a ||| b) &&& declS ms ms.length) k) from rfl)
  clear hb2 c0
  cases hbk : blkM d ms b k
  · rw [hbk] at HACC
    clear hbk
    go_wp2_with fail
    refine (ready_run _ d ms _ k (a ||| b) _ hl hor hk (H.out.below HB2.out)).mono ?_
    rintro e w3 ⟨rfl, hb3⟩
    have HB3 := Lib.hid (bstep (bstep HBw.out HB2.out) hb3)
    clear hb3
    generalize rdyB d ms ((a ||| b) &&& declS ms ms.length) k = q at *
    go_wp2_with fail
    go_ret
    exact ⟨by rw [HACC.out]; rfl, HB3.out⟩
  · rw [hbk] at HACC
    clear hbk
    go_wp2_with fail
    go_ret
    exact ⟨by rw [HACC.out]; rfl, bstep HBw.out HB2.out⟩
end Go.Proofs.Ytbbdmaakphoofaa
