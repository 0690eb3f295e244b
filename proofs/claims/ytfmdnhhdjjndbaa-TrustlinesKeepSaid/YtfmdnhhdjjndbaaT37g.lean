/- data.Ledger: the copy's rows are the call's own. -/
import Derived.Test.YtfmdnhhdjjndbaaT37e
import Derived.Test.YtfmdnhhdjjndbaaSrcL0
namespace Go.Proofs.Ytfmdnhhdjjndbaa
set_option linter.unusedVariables false
set_option linter.unusedSimpArgs false
open Go.RowKit

/-- A ledger whose three rows lie in blocks apart. -/
structure LedSep (B m1 m2 : Nat) (w : World) (va vl vo : Value) (g : Led) : Prop where
  a : AccAt (fun b => B ≤ b ∧ b < m1) w va g.accs
  l : LinAt (fun b => m1 ≤ b ∧ b < m2) w vl g.lines
  o : OffAt (fun b => m2 ≤ b) w vo g.offers
  h1 : B ≤ m1
  h2 : m1 ≤ m2
  h3 : m2 ≤ w.heap.size
theorem LedSep.both {B m1 m2 : Nat} {w w' : World} {va vl vo : Value} {g : Led} (h : LedSep B m1 m2 w va vl vo g) (hs : w.heap.size ≤ w'.heap.size) (hk : ∀ k, k < w.heap.size → B ≤ k → w'.heap[k]? = w.heap[k]?) : LedSep B m1 m2 w' va vl vo g :=
  ⟨h.a.both hs (fun k hz hp => hk k hz hp.1) (fun _ _ h => h), h.l.both hs (fun k hz hp => hk k hz (Nat.le_trans h.h1 hp.1)) (fun _ _ h => h), h.o.both hs (fun k hz hp => hk k hz (Nat.le_trans (Nat.le_trans h.h1 h.h2) hp)) (fun _ _ h => h), h.h1, h.h2, Nat.le_trans h.h3 hs⟩
theorem LedSep.below {B m1 m2 : Nat} {w w' : World} {va vl vo : Value} {g : Led} (h : LedSep B m1 m2 w va vl vo g) (hb : Below w.heap.size w w') : LedSep B m1 m2 w' va vl vo g := h.both hb.size (fun k hk _ => hb.block k hk)
theorem LedSep.led {B m1 m2 : Nat} {w : World} {va vl vo : Value} {g : Led} (h : LedSep B m1 m2 w va vl vo g) {C : Nat} (hc : C ≤ B) : LedAt (fun b => C ≤ b) w va vl vo g :=
  ⟨h.a.imp (fun b _ hp => Nat.le_trans hc hp.1), h.l.imp (fun b _ hp => Nat.le_trans hc (Nat.le_trans h.h1 hp.1)), h.o.imp (fun b _ hp => Nat.le_trans hc (Nat.le_trans (Nat.le_trans h.h1 h.h2) hp))⟩

/-- The row of a slice is not frozen. -/
def NF (v : Value) (W : World) : Prop := ∀ g o m c, v = .slice (some ⟨g, o, none⟩) m c → g < W.heap.size ∧ ∀ q, W.frozen? ⟨g, q, none⟩ = false
theorem NF.of_own {w : World} {B : Nat} {e : TypeId} {n m : Nat} {v : Value} {xs : List Value} (h : w.ownsRow B e n v m xs) : NF v w := by
  intro g o m' c hv
  rcases h.2 with ⟨hv2, h0⟩ | ⟨g', cap, cur, hv2, hb, hg, _⟩
  · rw [hv] at hv2; cases hv2
  · rw [hv] at hv2
    cases hv2
    exact ⟨(Array.getElem?_eq_some_iff.1 hg).1, fun q => by simp [World.frozen?, hg]⟩
theorem NF.below {v : Value} {W W' : World} (h : NF v W) (hb : Below W.heap.size W W') : NF v W' := fun g o m c hv => by
  obtain ⟨h1, h2⟩ := h g o m c hv
  exact ⟨Nat.lt_of_lt_of_le h1 hb.size, fun q => (hb.frozen (p := ⟨g, q, none⟩) h1).trans (h2 q)⟩
theorem NF.set {v : Value} {W : World} (h : NF v W) (p : Addr) (u : Value) : NF v (W.setCell p u) := fun g o m c hv => by
  obtain ⟨h1, h2⟩ := h g o m c hv
  exact ⟨by simpa [World.setCell] using h1, fun q => (World.frozen?_setCell _ _ _ _).trans (h2 q)⟩

set_option maxRecDepth 100000 in
set_option maxHeartbeats 8000000 in
theorem dledger_run (P : Nat → Prop) (g : Led) (va vl vo : Value) (w : World) (hok : LedW g) (h : LedAt P w va vl vo g) :
    Calls Try.prog 78 #[valG g va vl vo] w fun e w' => ∃ va' vl' vo' m0 m1 m2, e = .returned (valG g va' vl' vo') ∧ w.heap.size ≤ m0 ∧ LedSep m0 m1 m2 w' va' vl' vo' g ∧ NF vl' w' ∧ Below w.heap.size w w' := by
  unfold valG
  obtain ⟨A, c, B, c2, C, c3, rfl, rfl, rfl, hc, hm, hc2, hm2, hc3, hm3⟩ := h.form
  have HLN := Lib.hid (And.intro hok.accs.len (And.intro hok.lines.len hok.olen))
  have HFA := Lib.hid (fun W (hW : Below w.heap.size w W) => flatA_run P _ g.accs W (by have := HLN.out; omega) (h.below hW).a)
  have HFL := Lib.hid (fun W (hW : Below w.heap.size w W) => flatL_run P _ g.lines W (by have := HLN.out; omega) (h.below hW).l)
  have HFO := Lib.hid (fun W (hW : Below w.heap.size w W) => flatO_run P _ g.offers W (by have := HLN.out; omega) (h.below hW).o)
  have hb1 := balloc (bref w) (.cells #[.int .i64 g.number, .slice A g.accs.length c, .slice B g.lines.length c2, .slice C g.offers.length c3, .int .i64 g.next, .int .i64 g.fees, .int .u64 g.link] 30)
  have hb2 := balloc hb1 (.cells #[.int .i64 0, .slice none 0 0, .slice none 0 0, .slice none 0 0, .int .i64 0, .int .i64 0, .int .u64 0] 30)
  have HX0 := Lib.hid (HasB.alloc (show HasB w.heap.size (.cells #[.int .i64 g.number, .slice A g.accs.length c, .slice B g.lines.length c2, .slice C g.offers.length c3, .int .i64 g.next, .int .i64 g.fees, .int .u64 g.link] 30 (0, 0)) (w.alloc (.cells #[.int .i64 g.number, .slice A g.accs.length c, .slice B g.lines.length c2, .slice C g.offers.length c3, .int .i64 g.next, .int .i64 g.fees, .int .u64 g.link] 30)) from heap_alloc_new _ _) (.cells #[.int .i64 0, .slice none 0 0, .slice none 0 0, .slice none 0 0, .int .i64 0, .int .i64 0, .int .u64 0] 30))
  have hz := heap_alloc_new (w.alloc (.cells #[.int .i64 g.number, .slice A g.accs.length c, .slice B g.lines.length c2, .slice C g.offers.length c3, .int .i64 g.next, .int .i64 g.fees, .int .u64 g.link] 30)) (.cells #[.int .i64 0, .slice none 0 0, .slice none 0 0, .slice none 0 0, .int .i64 0, .int .i64 0, .int .u64 0] 30)
  rw [alloc_szS] at hz
  have HZ0 := Lib.hid (show HasB (w.heap.size + 1) (.cells #[.int .i64 0, .slice none 0 0, .slice none 0 0, .slice none 0 0, .int .i64 0, .int .i64 0, .int .u64 0] 30 (0, 0)) _ from hz)
  have HB0 := Lib.hid hb2
  clear h hb1 hb2 hz hok
  go_enter Try.func78, Try.ntmps78
  go_upto_region 1 with fail
  generalize (w.alloc (.cells #[.int .i64 g.number, .slice A g.accs.length c, .slice B g.lines.length c2, .slice C g.offers.length c3, .int .i64 g.next, .int .i64 g.fees, .int .u64 g.link] 30)).alloc (.cells #[.int .i64 0, .slice none 0 0, .slice none 0 0, .slice none 0 0, .int .i64 0, .int .i64 0, .int .u64 0] 30) = W0 at *
  obtain ⟨B0, hB0⟩ : ∃ B0, W0.heap.size = B0 := ⟨_, rfl⟩
  have hzl : w.heap.size + 1 < B0 := by rw [← hB0]; exact HZ0.out.lt
  have hSK : (fun W => Cs [(⟨w.heap.size, 1, none⟩, .slice A g.accs.length c), (⟨w.heap.size, 2, none⟩, .slice B g.lines.length c2), (⟨w.heap.size, 3, none⟩, .slice C g.offers.length c3)] W ∧ Below w.heap.size w W ∧ HasB w.heap.size (.cells #[.int .i64 g.number, .slice A g.accs.length c, .slice B g.lines.length c2, .slice C g.offers.length c3, .int .i64 g.next, .int .i64 g.fees, .int .u64 g.link] 30 (0, 0)) W ∧ HasB (w.heap.size + 1) (.cells #[.int .i64 0, .slice none 0 0, .slice none 0 0, .slice none 0 0, .int .i64 0, .int .i64 0, .int .u64 0] 30 (0, 0)) W ∧ B0 ≤ W.heap.size) W0.drew := ⟨⟨HX0.out.cs7.2.1, HX0.out.cs7.2.2.1, HX0.out.cs7.2.2.2.1, trivial⟩, bdrew HB0.out, HX0.out, HZ0.out, by rw [← hB0]; exact Nat.le_refl _⟩
  refine region_f (fun W => Cs [(⟨w.heap.size, 1, none⟩, .slice A g.accs.length c), (⟨w.heap.size, 2, none⟩, .slice B g.lines.length c2), (⟨w.heap.size, 3, none⟩, .slice C g.offers.length c3)] W ∧ Below w.heap.size w W ∧ HasB w.heap.size (.cells #[.int .i64 g.number, .slice A g.accs.length c, .slice B g.lines.length c2, .slice C g.offers.length c3, .int .i64 g.next, .int .i64 g.fees, .int .u64 g.link] 30 (0, 0)) W ∧ HasB (w.heap.size + 1) (.cells #[.int .i64 0, .slice none 0 0, .slice none 0 0, .slice none 0 0, .int .i64 0, .int .i64 0, .int .u64 0] 30 (0, 0)) W ∧ B0 ≤ W.heap.size) [10, 12, 14] (by kernel_rfl) ?_
  clear hB0
  refine take_y (some 3) (i := 0) (v := ?_) rfl rfl (by kernel_rfl) (by kernel_rfl) (by kernel_rfl) (fun _ _ _ h => h) (Or.inl ⟨by rfl, ?_⟩) ?_
  rotate_left
  · intro w _; go_simp; (try with_reducible rfl)
  try simp only [Act.put, List.setIfInBounds_toArray, List.set_cons_zero, List.set_cons_succ]
  refine take_f (some 4) [2, 5, 8, 9, 10, 11, 12, 13, 14] (i := 1) (v := ?_) rfl rfl (by kernel_rfl) (by kernel_rfl) (by kernel_rfl) (by kernel_rfl) (fun _ _ _ h => h) (Or.inl ⟨by rfl, ?_⟩) (by assumption) ?_
  rotate_left
  · intro w hSw; (dsimp only [Cs] at hSw); go_simp; (try with_reducible rfl)
  try simp only [Act.put, List.setIfInBounds_toArray, List.set_cons_zero, List.set_cons_succ]
  refine take_y (some 6) (i := 3) (v := ?_) rfl rfl (by kernel_rfl) (by kernel_rfl) (by kernel_rfl) (fun _ _ _ h => h) (Or.inl ⟨by rfl, ?_⟩) ?_
  rotate_left
  · intro w _; go_simp; (try with_reducible rfl)
  try simp only [Act.put, List.setIfInBounds_toArray, List.set_cons_zero, List.set_cons_succ]
  refine take_f (some 7) [5, 8, 9, 10, 11, 12, 13, 14] (i := 4) (v := ?_) rfl rfl (by kernel_rfl) (by kernel_rfl) (by kernel_rfl) (by kernel_rfl) (fun _ _ _ h => h) (Or.inl ⟨by rfl, ?_⟩) (by assumption) ?_
  rotate_left
  · intro w hSw; (dsimp only [Cs] at hSw); go_simp; (try with_reducible rfl)
  try simp only [Act.put, List.setIfInBounds_toArray, List.set_cons_zero, List.set_cons_succ]
  refine take_y (some 9) (i := 6) (v := ?_) rfl rfl (by kernel_rfl) (by kernel_rfl) (by kernel_rfl) (fun _ _ _ h => h) (Or.inl ⟨by rfl, ?_⟩) ?_
  rotate_left
  · intro w _; go_simp; (try with_reducible rfl)
  try simp only [Act.put, List.setIfInBounds_toArray, List.set_cons_zero, List.set_cons_succ]
  refine take_f (some 10) [8, 9, 10, 11, 12, 13, 14] (i := 7) (v := ?_) rfl rfl (by kernel_rfl) (by kernel_rfl) (by kernel_rfl) (by kernel_rfl) (fun _ _ _ h => h) (Or.inl ⟨by rfl, ?_⟩) (by assumption) ?_
  rotate_left
  · intro w hSw; (dsimp only [Cs] at hSw); go_simp; (try with_reducible rfl)
  try simp only [Act.put, List.setIfInBounds_toArray, List.set_cons_zero, List.set_cons_succ]
  refine one_f (i := 2) (by kernel_rfl) rfl (fun K hK => ?_)
  go_simp
  refine (HFA.out _ hSK.2.1).mono ?_
  rintro e wK ⟨vX, rfl, ho, hbK⟩
  replace ho := World.ownsRow.mono ho hSK.2.2.2.2
  have hA := RowAt.of_own (P := fun b => B0 ≤ b) encA_len ho (by have := HLN.out; unfold maxLen; omega) (fun b hb _ => hb)
  obtain ⟨m1, hm1⟩ : ∃ m, wK.heap.size = m := ⟨_, rfl⟩
  have hle : B0 ≤ m1 := by rw [← hm1]; exact Nat.le_trans hSK.2.2.2.2 hbK.size
  replace hA := hA.imp (Q := fun b => B0 ≤ b ∧ b < m1) (fun b hb hp => ⟨hp, by rw [← hm1]; exact hb⟩)
  have Hm1 := Lib.hid (And.intro hm1 hle)
  clear hm1 hle
  obtain ⟨A9, c9, rfl, _, _⟩ := hA.slice
  have HA9 := Lib.hid hA
  replace hSK := (show Cs [(⟨w.heap.size, 1, none⟩, .slice A g.accs.length c), (⟨w.heap.size, 2, none⟩, .slice B g.lines.length c2), (⟨w.heap.size, 3, none⟩, .slice C g.offers.length c3)] wK ∧ Below w.heap.size w wK ∧ HasB w.heap.size (.cells #[.int .i64 g.number, .slice A g.accs.length c, .slice B g.lines.length c2, .slice C g.offers.length c3, .int .i64 g.next, .int .i64 g.fees, .int .u64 g.link] 30 (0, 0)) wK ∧ HasB (w.heap.size + 1) (.cells #[.int .i64 0, .slice none 0 0, .slice none 0 0, .slice none 0 0, .int .i64 0, .int .i64 0, .int .u64 0] 30 (0, 0)) wK ∧ B0 ≤ wK.heap.size from ⟨Cs.below hSK.1 hbK, bstep hSK.2.1 hbK, hSK.2.2.1.below hbK, hSK.2.2.2.1.below hbK, Nat.le_trans hSK.2.2.2.2 hbK.size⟩)
  clear ho hbK hA
  go_wp2_with fail
  refine hK.out _ _ (Or.inr (fun _ => hSK)) ?_
  clear hK K
  try simp only [Act.put, List.setIfInBounds_toArray, List.set_cons_zero, List.set_cons_succ]
  refine take_y (some 12) (i := 9) (v := ?_) rfl rfl (by kernel_rfl) (by kernel_rfl) (by kernel_rfl) (fun _ _ _ h => h) (Or.inl ⟨by rfl, ?_⟩) ?_
  rotate_left
  · intro w _; go_simp; (try with_reducible rfl)
  try simp only [Act.put, List.setIfInBounds_toArray, List.set_cons_zero, List.set_cons_succ]
  refine one_f (i := 5) (by kernel_rfl) rfl (fun K hK => ?_)
  go_simp
  refine (HFL.out _ hSK.2.1).mono ?_
  rintro e wK ⟨vX, rfl, ho, hbK⟩
  rw [Hm1.out.1] at ho
  have hB := RowAt.of_own (P := fun b => m1 ≤ b) encL_len ho (by have := HLN.out; unfold maxLen; omega) (fun b hb _ => hb)
  obtain ⟨m2, hm2⟩ : ∃ m, wK.heap.size = m := ⟨_, rfl⟩
  have hle : m1 ≤ m2 := by rw [← hm2]; exact Hm1.out.1 ▸ hbK.size
  replace hB := hB.imp (Q := fun b => m1 ≤ b ∧ b < m2) (fun b hb hp => ⟨hp, by rw [← hm2]; exact hb⟩)
  have Hm2 := Lib.hid (And.intro hm2 hle)
  clear hm2 hle
  obtain ⟨B9, d9, rfl, _, _⟩ := hB.slice
  have HB9 := Lib.hid hB
  have HN9 := Lib.hid (NF.of_own ho)
  have HA9 := Lib.hid (HA9.out.below hbK)
  replace hSK := (show Cs [(⟨w.heap.size, 1, none⟩, .slice A g.accs.length c), (⟨w.heap.size, 2, none⟩, .slice B g.lines.length c2), (⟨w.heap.size, 3, none⟩, .slice C g.offers.length c3)] wK ∧ Below w.heap.size w wK ∧ HasB w.heap.size (.cells #[.int .i64 g.number, .slice A g.accs.length c, .slice B g.lines.length c2, .slice C g.offers.length c3, .int .i64 g.next, .int .i64 g.fees, .int .u64 g.link] 30 (0, 0)) wK ∧ HasB (w.heap.size + 1) (.cells #[.int .i64 0, .slice none 0 0, .slice none 0 0, .slice none 0 0, .int .i64 0, .int .i64 0, .int .u64 0] 30 (0, 0)) wK ∧ B0 ≤ wK.heap.size from ⟨Cs.below hSK.1 hbK, bstep hSK.2.1 hbK, hSK.2.2.1.below hbK, hSK.2.2.2.1.below hbK, Nat.le_trans hSK.2.2.2.2 hbK.size⟩)
  clear ho hbK hB
  go_wp2_with fail
  refine hK.out _ _ (Or.inr (fun _ => hSK)) ?_
  clear hK K
  try simp only [Act.put, List.setIfInBounds_toArray, List.set_cons_zero, List.set_cons_succ]
  refine one_f (i := 8) (by kernel_rfl) rfl (fun K hK => ?_)
  go_simp
  refine (HFO.out _ hSK.2.1).mono ?_
  rintro e wK ⟨vX, rfl, ho, hbK⟩
  rw [Hm2.out.1] at ho
  have hC := RowAt.of_own (P := fun b => m2 ≤ b) encO_len ho (by have := HLN.out; unfold maxLen; omega) (fun b hb _ => hb)
  obtain ⟨C9, e9, rfl, _, _⟩ := hC.slice
  have HC9 := Lib.hid hC
  have hm2z : m2 ≤ wK.heap.size := Hm2.out.1 ▸ hbK.size
  have HA9 := Lib.hid (HA9.out.below hbK)
  have HB9 := Lib.hid (HB9.out.below hbK)
  have HN9 := Lib.hid (HN9.out.below hbK)
  replace hSK := (show Cs [(⟨w.heap.size, 1, none⟩, .slice A g.accs.length c), (⟨w.heap.size, 2, none⟩, .slice B g.lines.length c2), (⟨w.heap.size, 3, none⟩, .slice C g.offers.length c3)] wK ∧ Below w.heap.size w wK ∧ HasB w.heap.size (.cells #[.int .i64 g.number, .slice A g.accs.length c, .slice B g.lines.length c2, .slice C g.offers.length c3, .int .i64 g.next, .int .i64 g.fees, .int .u64 g.link] 30 (0, 0)) wK ∧ HasB (w.heap.size + 1) (.cells #[.int .i64 0, .slice none 0 0, .slice none 0 0, .slice none 0 0, .int .i64 0, .int .i64 0, .int .u64 0] 30 (0, 0)) wK ∧ B0 ≤ wK.heap.size from ⟨Cs.below hSK.1 hbK, bstep hSK.2.1 hbK, hSK.2.2.1.below hbK, hSK.2.2.2.1.below hbK, Nat.le_trans hSK.2.2.2.2 hbK.size⟩)
  clear ho hbK hC
  obtain ⟨x_0, x_1, x_2, x_3, x_4, x_5, x_6, _⟩ := hSK.2.2.1.cs7
  have f1 := hSK.2.2.1.fr 1
  have f2 := hSK.2.2.1.fr 2
  have f3 := hSK.2.2.1.fr 3
  go_wp2_with fail
  refine hK.out _ _ (Or.inr (fun _ => hSK)) ?_
  clear hK K
  try simp only [Act.put, List.setIfInBounds_toArray, List.set_cons_zero, List.set_cons_succ]
  refine one_f (i := 10) (by kernel_rfl) rfl (fun K hK => ?_)
  go_simp
  refine hK.out _ _ (Or.inl (by kernel_rfl)) ?_
  clear hK K
  try simp only [Act.put, List.setIfInBounds_toArray, List.set_cons_zero, List.set_cons_succ]
  refine take_y (some 13) (i := 11) (v := ?_) rfl rfl (by kernel_rfl) (by kernel_rfl) (by kernel_rfl) (fun _ _ _ h => h) (Or.inl ⟨by rfl, ?_⟩) ?_
  rotate_left
  · intro w _; go_simp; (try with_reducible rfl)
  try simp only [Act.put, List.setIfInBounds_toArray, List.set_cons_zero, List.set_cons_succ]
  refine one_f (i := 12) (by kernel_rfl) rfl (fun K hK => ?_)
  go_simp
  refine hK.out _ _ (Or.inl (by kernel_rfl)) ?_
  clear hK K
  try simp only [Act.put, List.setIfInBounds_toArray, List.set_cons_zero, List.set_cons_succ]
  refine take_y (some 14) (i := 13) (v := ?_) rfl rfl (by kernel_rfl) (by kernel_rfl) (by kernel_rfl) (fun _ _ _ h => h) (Or.inl ⟨by rfl, ?_⟩) ?_
  rotate_left
  · intro w _; go_simp; (try with_reducible rfl)
  try simp only [Act.put, List.setIfInBounds_toArray, List.set_cons_zero, List.set_cons_succ]
  refine one_f (i := 14) (by kernel_rfl) rfl (fun K hK => ?_)
  go_simp
  refine hK.out _ _ (Or.inl (by kernel_rfl)) ?_
  clear hK K
  try simp only [Act.put, List.setIfInBounds_toArray, List.set_cons_zero, List.set_cons_succ]
  refine done_f (by kernel_rfl) ?_ _
  have HG9 := Lib.hid (show HasB w.heap.size (.cells #[.int .i64 g.number, .slice A9 g.accs.length c9, .slice B9 g.lines.length d9, .slice C9 g.offers.length e9, .int .i64 g.next, .int .i64 g.fees, .int .u64 g.link] 30 (0, 0)) ((((wK).setCell ⟨w.heap.size, 1, none⟩ (.slice A9 g.accs.length c9)).setCell ⟨w.heap.size, 2, none⟩ (.slice B9 g.lines.length d9)).setCell ⟨w.heap.size, 3, none⟩ (.slice C9 g.offers.length e9)) from set_obj (k := 3) (set_obj (k := 2) (set_obj (k := 1) hSK.2.2.1 _) _) _)
  have HZ9 := Lib.hid ((((hSK.2.2.2.1).far (p := ⟨w.heap.size, 1, none⟩) (by show w.heap.size ≠ w.heap.size + 1; omega) (.slice A9 g.accs.length c9)).far (p := ⟨w.heap.size, 2, none⟩) (by show w.heap.size ≠ w.heap.size + 1; omega) (.slice B9 g.lines.length d9)).far (p := ⟨w.heap.size, 3, none⟩) (by show w.heap.size ≠ w.heap.size + 1; omega) (.slice C9 g.offers.length e9))
  have HBB := Lib.hid (bset (bset (bset (hSK.2.1) (p := ⟨w.heap.size, 1, none⟩) (by show w.heap.size ≤ w.heap.size; omega) (.slice A9 g.accs.length c9)) (p := ⟨w.heap.size, 2, none⟩) (by show w.heap.size ≤ w.heap.size; omega) (.slice B9 g.lines.length d9)) (p := ⟨w.heap.size, 3, none⟩) (by show w.heap.size ≤ w.heap.size; omega) (.slice C9 g.offers.length e9))
  have HL9 := Lib.hid (show LedSep B0 m1 m2 ((((wK).setCell ⟨w.heap.size, 1, none⟩ (.slice A9 g.accs.length c9)).setCell ⟨w.heap.size, 2, none⟩ (.slice B9 g.lines.length d9)).setCell ⟨w.heap.size, 3, none⟩ (.slice C9 g.offers.length e9)) (.slice A9 g.accs.length c9) (.slice B9 g.lines.length d9) (.slice C9 g.offers.length e9) g from (LedSep.mk HA9.out HB9.out HC9.out Hm1.out.2 Hm2.out.2 hm2z : LedSep B0 m1 m2 wK _ _ _ g).both (by simp [World.setCell]) (fun j hj hp => (Below.heap_setCell _ ⟨w.heap.size, 3, none⟩ (.slice C9 g.offers.length e9) j (by show j ≠ w.heap.size; omega)).trans ((Below.heap_setCell _ ⟨w.heap.size, 2, none⟩ (.slice B9 g.lines.length d9) j (by show j ≠ w.heap.size; omega)).trans ((Below.heap_setCell _ ⟨w.heap.size, 1, none⟩ (.slice A9 g.accs.length c9) j (by show j ≠ w.heap.size; omega)).trans ((rfl : wK.heap[j]? = wK.heap[j]?))))))
  have HNN := Lib.hid (((HN9.out.set ⟨w.heap.size, 1, none⟩ (.slice A9 g.accs.length c9)).set ⟨w.heap.size, 2, none⟩ (.slice B9 g.lines.length d9)).set ⟨w.heap.size, 3, none⟩ (.slice C9 g.offers.length e9))
  generalize (((wK).setCell ⟨w.heap.size, 1, none⟩ (.slice A9 g.accs.length c9)).setCell ⟨w.heap.size, 2, none⟩ (.slice B9 g.lines.length d9)).setCell ⟨w.heap.size, 3, none⟩ (.slice C9 g.offers.length e9) = W9 at *
  clear HN9 hSK x_0 x_1 x_2 x_3 x_4 x_5 x_6 f1 f2 f3 HA9 HB9 HC9
  obtain ⟨x_0, x_1, x_2, x_3, x_4, x_5, x_6, _⟩ := HG9.out.cs7
  obtain ⟨z_0, z_1, z_2, z_3, z_4, z_5, z_6, _⟩ := HZ9.out.cs7
  have zf0 := HZ9.out.fr 0
  have zf1 := HZ9.out.fr 1
  have zf2 := HZ9.out.fr 2
  have zf3 := HZ9.out.fr 3
  have zf4 := HZ9.out.fr 4
  have zf5 := HZ9.out.fr 5
  have zf6 := HZ9.out.fr 6
  have HK := Lib.hid (show W9.heap[w.heap.size + 1]? = some (.cells #[.int .i64 0, .slice none 0 0, .slice none 0 0, .slice none 0 0, .int .i64 0, .int .i64 0, .int .u64 0] 30 (0, 0)) from HZ9.out)
  have HLF := Lib.hid (show LedSep B0 m1 m2 ((((((((W9).setCell ⟨w.heap.size + 1, 0, none⟩ (.int .i64 g.number)).setCell ⟨w.heap.size + 1, 1, none⟩ (.slice A9 g.accs.length c9)).setCell ⟨w.heap.size + 1, 2, none⟩ (.slice B9 g.lines.length d9)).setCell ⟨w.heap.size + 1, 3, none⟩ (.slice C9 g.offers.length e9)).setCell ⟨w.heap.size + 1, 4, none⟩ (.int .i64 g.next)).setCell ⟨w.heap.size + 1, 5, none⟩ (.int .i64 g.fees)).setCell ⟨w.heap.size + 1, 6, none⟩ (.int .u64 g.link)) (.slice A9 g.accs.length c9) (.slice B9 g.lines.length d9) (.slice C9 g.offers.length e9) g from HL9.out.both (by simp [World.setCell]) (fun j hj hp => (Below.heap_setCell _ ⟨w.heap.size + 1, 6, none⟩ (.int .u64 g.link) j (by show j ≠ w.heap.size + 1; omega)).trans ((Below.heap_setCell _ ⟨w.heap.size + 1, 5, none⟩ (.int .i64 g.fees) j (by show j ≠ w.heap.size + 1; omega)).trans ((Below.heap_setCell _ ⟨w.heap.size + 1, 4, none⟩ (.int .i64 g.next) j (by show j ≠ w.heap.size + 1; omega)).trans ((Below.heap_setCell _ ⟨w.heap.size + 1, 3, none⟩ (.slice C9 g.offers.length e9) j (by show j ≠ w.heap.size + 1; omega)).trans ((Below.heap_setCell _ ⟨w.heap.size + 1, 2, none⟩ (.slice B9 g.lines.length d9) j (by show j ≠ w.heap.size + 1; omega)).trans ((Below.heap_setCell _ ⟨w.heap.size + 1, 1, none⟩ (.slice A9 g.accs.length c9) j (by show j ≠ w.heap.size + 1; omega)).trans ((Below.heap_setCell _ ⟨w.heap.size + 1, 0, none⟩ (.int .i64 g.number) j (by show j ≠ w.heap.size + 1; omega)).trans ((rfl : W9.heap[j]? = W9.heap[j]?))))))))))
  have HBF := Lib.hid (bset (bset (bset (bset (bset (bset (bset (HBB.out) (p := ⟨w.heap.size + 1, 0, none⟩) (by show w.heap.size ≤ w.heap.size + 1; omega) (.int .i64 g.number)) (p := ⟨w.heap.size + 1, 1, none⟩) (by show w.heap.size ≤ w.heap.size + 1; omega) (.slice A9 g.accs.length c9)) (p := ⟨w.heap.size + 1, 2, none⟩) (by show w.heap.size ≤ w.heap.size + 1; omega) (.slice B9 g.lines.length d9)) (p := ⟨w.heap.size + 1, 3, none⟩) (by show w.heap.size ≤ w.heap.size + 1; omega) (.slice C9 g.offers.length e9)) (p := ⟨w.heap.size + 1, 4, none⟩) (by show w.heap.size ≤ w.heap.size + 1; omega) (.int .i64 g.next)) (p := ⟨w.heap.size + 1, 5, none⟩) (by show w.heap.size ≤ w.heap.size + 1; omega) (.int .i64 g.fees)) (p := ⟨w.heap.size + 1, 6, none⟩) (by show w.heap.size ≤ w.heap.size + 1; omega) (.int .u64 g.link))
  have HNF := Lib.hid ((((((((HNN.out).set ⟨w.heap.size + 1, 0, none⟩ (.int .i64 g.number)).set ⟨w.heap.size + 1, 1, none⟩ (.slice A9 g.accs.length c9)).set ⟨w.heap.size + 1, 2, none⟩ (.slice B9 g.lines.length d9)).set ⟨w.heap.size + 1, 3, none⟩ (.slice C9 g.offers.length e9)).set ⟨w.heap.size + 1, 4, none⟩ (.int .i64 g.next)).set ⟨w.heap.size + 1, 5, none⟩ (.int .i64 g.fees)).set ⟨w.heap.size + 1, 6, none⟩ (.int .u64 g.link))
  go_wp2_with fail
  refine bodyPost_ret (v := .agg #[.int .i64 g.number, .slice A9 g.accs.length c9, .slice B9 g.lines.length d9, .slice C9 g.offers.length e9, .int .i64 g.next, .int .i64 g.fees, .int .u64 g.link]) ?_ rfl ⟨_, _, _, B0, m1, m2, rfl, Nat.le_of_lt (Nat.lt_of_succ_lt hzl), HLF.out, HNF.out, HBF.out⟩
  simp [results, Try.results78, go_sem, z_0, z_1, z_2, z_3, z_4, z_5, z_6, (show _ = _ from HK.out)]
end Go.Proofs.Ytfmdnhhdjjndbaa
