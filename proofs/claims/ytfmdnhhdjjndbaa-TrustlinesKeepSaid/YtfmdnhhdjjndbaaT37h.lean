/- Package trustlines: the closures of Credit and Debit; changeLine. -/
import Derived.Test.YtfmdnhhdjjndbaaT37m
import Derived.Test.YtfmdnhhdjjndbaaT37g
import Derived.Test.YtfmdnhhdjjndbaaA36b
namespace Go.Proofs.Ytfmdnhhdjjndbaa
set_option linter.unusedVariables false
set_option linter.unusedSimpArgs false
open Go.RowKit

/-- What a change of one line does: an error er, or the line up. -/
def ClL (G : Nat) (caps : Array Value) (er : Lin → Int) (up : Lin → Lin) (a : Lin) (w0 : World) : Prop :=
  ∀ (b o : Nat) (W : World), w0.heap.size ≤ b → b < W.heap.size → Below w0.heap.size w0 W → Cs [(⟨b, o, none⟩, .int .i64 (a).acc), (⟨b, o + 1, none⟩, .string (codeOf (a).ast)), (⟨b, o + 2, none⟩, .int .i64 (issOf (a).ast)), (⟨b, o + 3, none⟩, .int .i64 (a).bal), (⟨b, o + 4, none⟩, .int .i64 (a).lim)] W → (∀ q, W.frozen? ⟨b, q, none⟩ = false) →
    Calls Try.prog G (#[.pointer (some ⟨b, o, none⟩)] ++ caps) W fun e w' => e = .returned (.int .i64 (er a)) ∧ W.grownBy w' (some b) ∧ (∀ q, (q < o ∨ o + 5 ≤ q) → w'.cell? ⟨b, q, none⟩ = W.cell? ⟨b, q, none⟩) ∧
      (er a = 0 → Cs [(⟨b, o, none⟩, .int .i64 (up a).acc), (⟨b, o + 1, none⟩, .string (codeOf (up a).ast)), (⟨b, o + 2, none⟩, .int .i64 (issOf (up a).ast)), (⟨b, o + 3, none⟩, .int .i64 (up a).bal), (⟨b, o + 4, none⟩, .int .i64 (up a).lim)] w')

theorem ClL.below {G : Nat} {caps : Array Value} {er : Lin → Int} {up : Lin → Lin} {a : Lin} {w0 w1 : World} (h : ClL G caps er up a w0) (hb : Below w0.heap.size w0 w1) : ClL G caps er up a w1 :=
  fun b o W h1 h2 h3 h4 h5 => h b o W (Nat.le_trans hb.size h1) h2 (bstep hb h3) h4 h5

set_option maxRecDepth 100000 in
set_option maxHeartbeats 4000000 in
theorem cr1_run (accs : List Acc) (n : Int) (tb : Nat) (a : Lin) (w0 : World) (hg : LinG accs a) (hn0 : 0 ≤ n) (hn1 : n ≤ 1000000000000) (htb : w0.cell? ⟨tb, 0, none⟩ = some (.int .i64 n)) :
    ClL 54 #[.pointer (some ⟨tb, 0, none⟩)] (crE n) (crU n) a w0 := by
  intro b o w hbw hbl hB hcs hfz
  obtain ⟨c0, c1, c2, c3, c4, _⟩ := id hcs
  have htl : tb < w0.heap.size := cell_lt htb
  have ht : w.cell? ⟨tb, 0, none⟩ = some (.int .i64 n) := (hB.cell (p := ⟨tb, 0, none⟩) htl).trans htb
  have hS1 := Lib.hid (show Cs [(⟨b, o + 3, none⟩, .int .i64 a.bal), (⟨b, o + 4, none⟩, .int .i64 a.lim), (⟨tb, 0, none⟩, .int .i64 n)] w.drew from ⟨c3, c4, ht, trivial⟩)
  have hS2 := Lib.hid (show Cs [(⟨b, o + 3, none⟩, .int .i64 a.bal), (⟨b, o + 4, none⟩, .int .i64 a.lim), (⟨tb, 0, none⟩, .int .i64 n)] w.drew.drew from ⟨c3, c4, ht, trivial⟩)
  have hb0 := hg.b0
  have hb1 := hg.b1
  have hm1 := hg.m1
  have hw : IntKind.i64.wrap (a.lim - a.bal) = a.lim - a.bal := IntWalk.i64_in _ (by omega)
  have HFZ := Lib.hid hfz
  have HC := Lib.hid hcs
  clear hfz hcs c0 c1 c2 c3 c4 ht hB hg
  rcases Decidable.em (a.lim - a.bal < n) with h1 | h1
  · have HE := Lib.hid (show crE n a = 70 from if_pos h1)
    have q0 : decide (a.lim - a.bal < n) = true := decide_eq_true h1
    clear h1
    show Calls Try.prog 54 #[.pointer (some ⟨b, o, none⟩), .pointer (some ⟨tb, 0, none⟩)] w _
    go_enter Try.func54, Try.ntmps54
    go_upto_region 1 with fail
    refine wp_region_held_drew (S := (fun W => Cs [(⟨b, o + 3, none⟩, .int .i64 a.bal), (⟨b, o + 4, none⟩, .int .i64 a.lim), (⟨tb, 0, none⟩, .int .i64 n)] W)) (by kernel_rfl) hS1.out (fun hSK => ?_)
    refine take_d (some 4) (i := 0) (v := ?_) rfl rfl (by kernel_rfl) (by kernel_rfl) (by kernel_rfl) (fun _ _ _ h => h) (Or.inl ⟨by rfl, ?_⟩) (by assumption) ?_
    rotate_left
    · intro w hSw; (dsimp only [Cs] at hSw); go_simp; (try with_reducible rfl)
    try simp only [Act.put, List.setIfInBounds_toArray, List.set_cons_zero, List.set_cons_succ]
    refine take_d (some 5) (i := 1) (v := ?_) rfl rfl (by kernel_rfl) (by kernel_rfl) (by kernel_rfl) (fun _ _ _ h => h) (Or.inl ⟨by rfl, ?_⟩) (by assumption) ?_
    rotate_left
    · intro w hSw; (dsimp only [Cs] at hSw); go_simp; (try with_reducible rfl)
    try simp only [Act.put, List.setIfInBounds_toArray, List.set_cons_zero, List.set_cons_succ]
    refine take_d (some 6) (i := 2) (v := ?_) rfl rfl (by kernel_rfl) (by kernel_rfl) (by kernel_rfl) (fun _ _ _ h => h) (Or.inl ⟨by rfl, ?_⟩) (by assumption) ?_
    rotate_left
    · intro w hSw; (dsimp only [Cs] at hSw); go_simp; (try with_reducible rfl)
    try simp only [Act.put, List.setIfInBounds_toArray, List.set_cons_zero, List.set_cons_succ]
    refine take_d (some 7) (i := 3) (v := ?_) rfl rfl (by kernel_rfl) (by kernel_rfl) (by kernel_rfl) (fun _ _ _ h => h) (Or.inl ⟨by rfl, ?_⟩) (by assumption) ?_
    rotate_left
    · intro w hSw; (dsimp only [Cs] at hSw); go_simp; (try with_reducible rfl)
    try simp only [Act.put, List.setIfInBounds_toArray, List.set_cons_zero, List.set_cons_succ]
    refine take_d (some 8) (i := 4) (v := ?_) rfl rfl (by kernel_rfl) (by kernel_rfl) (by kernel_rfl) (fun _ _ _ h => h) (Or.inl ⟨by rfl, ?_⟩) (by assumption) ?_
    rotate_left
    · intro w hSw; (dsimp only [Cs] at hSw); go_simp; (try with_reducible rfl)
    try simp only [Act.put, List.setIfInBounds_toArray, List.set_cons_zero, List.set_cons_succ]
    refine take_d (some 9) (i := 5) (v := ?_) rfl rfl (by kernel_rfl) (by kernel_rfl) (by kernel_rfl) (fun _ _ _ h => h) (Or.inl ⟨by rfl, ?_⟩) (by assumption) ?_
    rotate_left
    · intro w hSw; (dsimp only [Cs] at hSw); go_simp; (try with_reducible rfl)
    try simp only [Act.put, List.setIfInBounds_toArray, List.set_cons_zero, List.set_cons_succ]
    refine take_d (some 10) (i := 6) (v := ?_) rfl rfl (by kernel_rfl) (by kernel_rfl) (by kernel_rfl) (fun _ _ _ h => h) (Or.inl ⟨by rfl, ?_⟩) (by assumption) ?_
    rotate_left
    · intro w hSw; (dsimp only [Cs] at hSw); go_simp; (try with_reducible rfl)
    try simp only [Act.put, List.setIfInBounds_toArray, List.set_cons_zero, List.set_cons_succ]
    refine take_d (some 11) (i := 7) (v := ?_) rfl rfl (by kernel_rfl) (by kernel_rfl) (by kernel_rfl) (fun _ _ _ h => h) (Or.inl ⟨by rfl, ?_⟩) (by assumption) ?_
    rotate_left
    · intro w hSw; (dsimp only [Cs] at hSw); go_simp; (try with_reducible rfl)
    try simp only [Act.put, List.setIfInBounds_toArray, List.set_cons_zero, List.set_cons_succ]
    refine take_d (some 12) (i := 8) (v := ?_) rfl rfl (by kernel_rfl) (by kernel_rfl) (by kernel_rfl) (fun _ _ _ h => h) (Or.inl ⟨by rfl, ?_⟩) (by assumption) ?_
    rotate_left
    · intro w hSw; (dsimp only [Cs] at hSw); go_simp; (try with_reducible rfl)
    try simp only [Act.put, List.setIfInBounds_toArray, List.set_cons_zero, List.set_cons_succ]
    refine take_d (some 13) (i := 9) (v := ?_) rfl rfl (by kernel_rfl) (by kernel_rfl) (by kernel_rfl) (fun _ _ _ h => h) (Or.inl ⟨by rfl, ?_⟩) (by assumption) ?_
    rotate_left
    · intro w hSw; (dsimp only [Cs] at hSw); go_simp; (try with_reducible rfl)
    try simp only [Act.put, List.setIfInBounds_toArray, List.set_cons_zero, List.set_cons_succ]
    refine take_d (some 14) (i := 10) (v := ?_) rfl rfl (by kernel_rfl) (by kernel_rfl) (by kernel_rfl) (fun _ _ _ h => h) (Or.inl ⟨by rfl, ?_⟩) (by assumption) ?_
    rotate_left
    · intro w hSw; (dsimp only [Cs] at hSw); go_simp; (try with_reducible rfl)
    try simp only [Act.put, List.setIfInBounds_toArray, List.set_cons_zero, List.set_cons_succ]
    refine wpAnyH_done (by kernel_rfl) ?_ _
    clear hSK
    go_wp2_with fail
    go_ret
    exact ⟨by rw [HE.out]; rfl, grown_below (bdrew (bref _)), fun q hq => rfl, fun h => by rw [HE.out] at h; cases h⟩
  · have HE := Lib.hid (show crE n a = 0 from if_neg h1)
    have q0 : decide (a.lim - a.bal < n) = false := decide_eq_false h1
    have q5 : IntKind.i64.wrap (a.bal + n) = a.bal + n := IntWalk.i64_in _ (by omega)
    clear h1
    show Calls Try.prog 54 #[.pointer (some ⟨b, o, none⟩), .pointer (some ⟨tb, 0, none⟩)] w _
    go_enter Try.func54, Try.ntmps54
    go_upto_region 1 with fail
    refine wp_region_held_drew (S := (fun W => Cs [(⟨b, o + 3, none⟩, .int .i64 a.bal), (⟨b, o + 4, none⟩, .int .i64 a.lim), (⟨tb, 0, none⟩, .int .i64 n)] W)) (by kernel_rfl) hS1.out (fun hSK => ?_)
    refine take_d (some 4) (i := 0) (v := ?_) rfl rfl (by kernel_rfl) (by kernel_rfl) (by kernel_rfl) (fun _ _ _ h => h) (Or.inl ⟨by rfl, ?_⟩) (by assumption) ?_
    rotate_left
    · intro w hSw; (dsimp only [Cs] at hSw); go_simp; (try with_reducible rfl)
    try simp only [Act.put, List.setIfInBounds_toArray, List.set_cons_zero, List.set_cons_succ]
    refine take_d (some 5) (i := 1) (v := ?_) rfl rfl (by kernel_rfl) (by kernel_rfl) (by kernel_rfl) (fun _ _ _ h => h) (Or.inl ⟨by rfl, ?_⟩) (by assumption) ?_
    rotate_left
    · intro w hSw; (dsimp only [Cs] at hSw); go_simp; (try with_reducible rfl)
    try simp only [Act.put, List.setIfInBounds_toArray, List.set_cons_zero, List.set_cons_succ]
    refine take_d (some 6) (i := 2) (v := ?_) rfl rfl (by kernel_rfl) (by kernel_rfl) (by kernel_rfl) (fun _ _ _ h => h) (Or.inl ⟨by rfl, ?_⟩) (by assumption) ?_
    rotate_left
    · intro w hSw; (dsimp only [Cs] at hSw); go_simp; (try with_reducible rfl)
    try simp only [Act.put, List.setIfInBounds_toArray, List.set_cons_zero, List.set_cons_succ]
    refine take_d (some 7) (i := 3) (v := ?_) rfl rfl (by kernel_rfl) (by kernel_rfl) (by kernel_rfl) (fun _ _ _ h => h) (Or.inl ⟨by rfl, ?_⟩) (by assumption) ?_
    rotate_left
    · intro w hSw; (dsimp only [Cs] at hSw); go_simp; (try with_reducible rfl)
    try simp only [Act.put, List.setIfInBounds_toArray, List.set_cons_zero, List.set_cons_succ]
    refine take_d (some 8) (i := 4) (v := ?_) rfl rfl (by kernel_rfl) (by kernel_rfl) (by kernel_rfl) (fun _ _ _ h => h) (Or.inl ⟨by rfl, ?_⟩) (by assumption) ?_
    rotate_left
    · intro w hSw; (dsimp only [Cs] at hSw); go_simp; (try with_reducible rfl)
    try simp only [Act.put, List.setIfInBounds_toArray, List.set_cons_zero, List.set_cons_succ]
    refine take_d (some 9) (i := 5) (v := ?_) rfl rfl (by kernel_rfl) (by kernel_rfl) (by kernel_rfl) (fun _ _ _ h => h) (Or.inl ⟨by rfl, ?_⟩) (by assumption) ?_
    rotate_left
    · intro w hSw; (dsimp only [Cs] at hSw); go_simp; (try with_reducible rfl)
    try simp only [Act.put, List.setIfInBounds_toArray, List.set_cons_zero, List.set_cons_succ]
    refine take_d (some 10) (i := 6) (v := ?_) rfl rfl (by kernel_rfl) (by kernel_rfl) (by kernel_rfl) (fun _ _ _ h => h) (Or.inl ⟨by rfl, ?_⟩) (by assumption) ?_
    rotate_left
    · intro w hSw; (dsimp only [Cs] at hSw); go_simp; (try with_reducible rfl)
    try simp only [Act.put, List.setIfInBounds_toArray, List.set_cons_zero, List.set_cons_succ]
    refine take_d (some 11) (i := 7) (v := ?_) rfl rfl (by kernel_rfl) (by kernel_rfl) (by kernel_rfl) (fun _ _ _ h => h) (Or.inl ⟨by rfl, ?_⟩) (by assumption) ?_
    rotate_left
    · intro w hSw; (dsimp only [Cs] at hSw); go_simp; (try with_reducible rfl)
    try simp only [Act.put, List.setIfInBounds_toArray, List.set_cons_zero, List.set_cons_succ]
    refine take_d (some 12) (i := 8) (v := ?_) rfl rfl (by kernel_rfl) (by kernel_rfl) (by kernel_rfl) (fun _ _ _ h => h) (Or.inl ⟨by rfl, ?_⟩) (by assumption) ?_
    rotate_left
    · intro w hSw; (dsimp only [Cs] at hSw); go_simp; (try with_reducible rfl)
    try simp only [Act.put, List.setIfInBounds_toArray, List.set_cons_zero, List.set_cons_succ]
    refine take_d (some 13) (i := 9) (v := ?_) rfl rfl (by kernel_rfl) (by kernel_rfl) (by kernel_rfl) (fun _ _ _ h => h) (Or.inl ⟨by rfl, ?_⟩) (by assumption) ?_
    rotate_left
    · intro w hSw; (dsimp only [Cs] at hSw); go_simp; (try with_reducible rfl)
    try simp only [Act.put, List.setIfInBounds_toArray, List.set_cons_zero, List.set_cons_succ]
    refine take_d (some 14) (i := 10) (v := ?_) rfl rfl (by kernel_rfl) (by kernel_rfl) (by kernel_rfl) (fun _ _ _ h => h) (Or.inl ⟨by rfl, ?_⟩) (by assumption) ?_
    rotate_left
    · intro w hSw; (dsimp only [Cs] at hSw); go_simp; (try with_reducible rfl)
    try simp only [Act.put, List.setIfInBounds_toArray, List.set_cons_zero, List.set_cons_succ]
    refine wpAnyH_done (by kernel_rfl) ?_ _
    clear hSK
    go_upto_region 3 with fail
    refine region_f (fun W => Cs [(⟨b, o + 3, none⟩, .int .i64 a.bal), (⟨b, o + 4, none⟩, .int .i64 a.lim), (⟨tb, 0, none⟩, .int .i64 n)] W) [8] (by kernel_rfl) ?_
    have hSK := hS2.out
    refine take_y (some 15) (i := 0) (v := ?_) rfl rfl (by kernel_rfl) (by kernel_rfl) (by kernel_rfl) (fun _ _ _ h => h) (Or.inl ⟨by rfl, ?_⟩) ?_
    rotate_left
    · intro w _; go_simp; (try with_reducible rfl)
    try simp only [Act.put, List.setIfInBounds_toArray, List.set_cons_zero, List.set_cons_succ]
    refine take_y (some 16) (i := 1) (v := ?_) rfl rfl (by kernel_rfl) (by kernel_rfl) (by kernel_rfl) (fun _ _ _ h => h) (Or.inl ⟨by rfl, ?_⟩) ?_
    rotate_left
    · intro w _; go_simp; (try with_reducible rfl)
    try simp only [Act.put, List.setIfInBounds_toArray, List.set_cons_zero, List.set_cons_succ]
    refine take_y (some 17) (i := 2) (v := ?_) rfl rfl (by kernel_rfl) (by kernel_rfl) (by kernel_rfl) (fun _ _ _ h => h) (Or.inl ⟨by rfl, ?_⟩) ?_
    rotate_left
    · intro w _; go_simp; (try with_reducible rfl)
    try simp only [Act.put, List.setIfInBounds_toArray, List.set_cons_zero, List.set_cons_succ]
    refine take_f (some 18) [5, 6, 7, 8] (i := 3) (v := ?_) rfl rfl (by kernel_rfl) (by kernel_rfl) (by kernel_rfl) (by kernel_rfl) (fun _ _ _ h => h) (Or.inl ⟨by rfl, ?_⟩) (by assumption) ?_
    rotate_left
    · intro w hSw; (dsimp only [Cs] at hSw); go_simp; (try with_reducible rfl)
    try simp only [Act.put, List.setIfInBounds_toArray, List.set_cons_zero, List.set_cons_succ]
    refine take_f (some 19) [5, 6, 7, 8] (i := 4) (v := ?_) rfl rfl (by kernel_rfl) (by kernel_rfl) (by kernel_rfl) (by kernel_rfl) (fun _ _ _ h => h) (Or.inl ⟨by rfl, ?_⟩) (by assumption) ?_
    rotate_left
    · intro w hSw; (dsimp only [Cs] at hSw); go_simp; (try with_reducible rfl)
    try simp only [Act.put, List.setIfInBounds_toArray, List.set_cons_zero, List.set_cons_succ]
    refine take_y (some 20) (i := 5) (v := ?_) rfl rfl (by kernel_rfl) (by kernel_rfl) (by kernel_rfl) (fun _ _ _ h => h) (Or.inl ⟨by rfl, ?_⟩) ?_
    rotate_left
    · intro w _; go_simp; (try with_reducible rfl)
    try simp only [Act.put, List.setIfInBounds_toArray, List.set_cons_zero, List.set_cons_succ]
    refine take_y (some 21) (i := 6) (v := ?_) rfl rfl (by kernel_rfl) (by kernel_rfl) (by kernel_rfl) (fun _ _ _ h => h) (Or.inl ⟨by rfl, ?_⟩) ?_
    rotate_left
    · intro w _; go_simp; (try with_reducible rfl)
    try simp only [Act.put, List.setIfInBounds_toArray, List.set_cons_zero, List.set_cons_succ]
    refine take_y (some 22) (i := 7) (v := ?_) rfl rfl (by kernel_rfl) (by kernel_rfl) (by kernel_rfl) (fun _ _ _ h => h) (Or.inl ⟨by rfl, ?_⟩) ?_
    rotate_left
    · intro w _; go_simp; (try with_reducible rfl)
    try simp only [Act.put, List.setIfInBounds_toArray, List.set_cons_zero, List.set_cons_succ]
    refine one_f (i := 8) (by kernel_rfl) rfl (fun K hK => ?_)
    obtain ⟨z1, z2, z3, _⟩ := id hSK
    have zf1 : w.drew.drew.frozen? ⟨b, o + 3, none⟩ = false := HFZ.out (o + 3)
    go_simp
    refine hK.out _ _ (Or.inl (by kernel_rfl)) ?_
    clear hK K
    try simp only [Act.put, List.setIfInBounds_toArray, List.set_cons_zero, List.set_cons_succ]
    refine done_f (by kernel_rfl) ?_ _
    have HG := Lib.hid (show w.grownBy (w.drew.drew.setCell ⟨b, o + 3, none⟩ (.int .i64 (a.bal + n))) (some b) from ⟨rfl, rfl, rfl, by simp [World.setCell], fun k hk hn => (Below.heap_setCell _ _ _ _ (fun e => hn (congrArg some e)))⟩)
    have HO := Lib.hid (show ∀ q, (q < o ∨ o + 5 ≤ q) → (w.drew.drew.setCell ⟨b, o + 3, none⟩ (.int .i64 (a.bal + n))).cell? ⟨b, q, none⟩ = w.cell? ⟨b, q, none⟩ from fun q hq => (World.cell?_setCell_other _ _ _ _ (fun e => by first | (simp at e; omega) | simp at e)))
    have HIN := Lib.hid (show Cs [(⟨b, o, none⟩, .int .i64 (crU n a).acc), (⟨b, o + 1, none⟩, .string (codeOf (crU n a).ast)), (⟨b, o + 2, none⟩, .int .i64 (issOf (crU n a).ast)), (⟨b, o + 3, none⟩, .int .i64 (crU n a).bal), (⟨b, o + 4, none⟩, .int .i64 (crU n a).lim)] (w.drew.drew.setCell ⟨b, o + 3, none⟩ (.int .i64 (a.bal + n))) from by
      obtain ⟨k0, k1, k2, k3, k4, _⟩ := HC.out
      exact ⟨(World.cell?_setCell_other _ _ _ _ (fun e => by simp at e)).trans k0, (World.cell?_setCell_other _ _ _ _ (fun e => by simp at e)).trans k1, (World.cell?_setCell_other _ _ _ _ (fun e => by simp at e)).trans k2, World.cell?_setCell_same _ _ _ k3, (World.cell?_setCell_other _ _ _ _ (fun e => by simp at e)).trans k4, trivial⟩)
    clear hSK z1 z2 z3 zf1
    go_wp2_with fail
    go_ret
    exact ⟨by rw [HE.out]; rfl, HG.out, HO.out, fun _ => HIN.out⟩

set_option maxRecDepth 100000 in
set_option maxHeartbeats 4000000 in
theorem db1_run (accs : List Acc) (n : Int) (tb : Nat) (a : Lin) (w0 : World) (hg : LinG accs a) (hn0 : 0 ≤ n) (hn1 : n ≤ 1000000000000) (htb : w0.cell? ⟨tb, 0, none⟩ = some (.int .i64 n)) :
    ClL 53 #[.pointer (some ⟨tb, 0, none⟩)] (dbE n) (dbU n) a w0 := by
  intro b o w hbw hbl hB hcs hfz
  obtain ⟨c0, c1, c2, c3, c4, _⟩ := id hcs
  have htl : tb < w0.heap.size := cell_lt htb
  have ht : w.cell? ⟨tb, 0, none⟩ = some (.int .i64 n) := (hB.cell (p := ⟨tb, 0, none⟩) htl).trans htb
  have hS1 := Lib.hid (show Cs [(⟨b, o + 3, none⟩, .int .i64 a.bal), (⟨b, o + 4, none⟩, .int .i64 a.lim), (⟨tb, 0, none⟩, .int .i64 n)] w.drew from ⟨c3, c4, ht, trivial⟩)
  have hS2 := Lib.hid (show Cs [(⟨b, o + 3, none⟩, .int .i64 a.bal), (⟨b, o + 4, none⟩, .int .i64 a.lim), (⟨tb, 0, none⟩, .int .i64 n)] w.drew.drew from ⟨c3, c4, ht, trivial⟩)
  have hb0 := hg.b0
  have hb1 := hg.b1
  have hm1 := hg.m1
  have hw : IntKind.i64.wrap (a.lim - a.bal) = a.lim - a.bal := IntWalk.i64_in _ (by omega)
  have HFZ := Lib.hid hfz
  have HC := Lib.hid hcs
  clear hfz hcs c0 c1 c2 c3 c4 ht hB hg
  rcases Decidable.em (a.bal < n) with h1 | h1
  · have HE := Lib.hid (show dbE n a = 66 from if_pos h1)
    have q0 : decide (a.bal < n) = true := decide_eq_true h1
    clear h1
    show Calls Try.prog 53 #[.pointer (some ⟨b, o, none⟩), .pointer (some ⟨tb, 0, none⟩)] w _
    go_enter Try.func53, Try.ntmps53
    go_upto_region 1 with fail
    refine wp_region_held_drew (S := (fun W => Cs [(⟨b, o + 3, none⟩, .int .i64 a.bal), (⟨b, o + 4, none⟩, .int .i64 a.lim), (⟨tb, 0, none⟩, .int .i64 n)] W)) (by kernel_rfl) hS1.out (fun hSK => ?_)
    refine take_d (some 4) (i := 0) (v := ?_) rfl rfl (by kernel_rfl) (by kernel_rfl) (by kernel_rfl) (fun _ _ _ h => h) (Or.inl ⟨by rfl, ?_⟩) (by assumption) ?_
    rotate_left
    · intro w hSw; (dsimp only [Cs] at hSw); go_simp; (try with_reducible rfl)
    try simp only [Act.put, List.setIfInBounds_toArray, List.set_cons_zero, List.set_cons_succ]
    refine take_d (some 5) (i := 1) (v := ?_) rfl rfl (by kernel_rfl) (by kernel_rfl) (by kernel_rfl) (fun _ _ _ h => h) (Or.inl ⟨by rfl, ?_⟩) (by assumption) ?_
    rotate_left
    · intro w hSw; (dsimp only [Cs] at hSw); go_simp; (try with_reducible rfl)
    try simp only [Act.put, List.setIfInBounds_toArray, List.set_cons_zero, List.set_cons_succ]
    refine take_d (some 6) (i := 2) (v := ?_) rfl rfl (by kernel_rfl) (by kernel_rfl) (by kernel_rfl) (fun _ _ _ h => h) (Or.inl ⟨by rfl, ?_⟩) (by assumption) ?_
    rotate_left
    · intro w hSw; (dsimp only [Cs] at hSw); go_simp; (try with_reducible rfl)
    try simp only [Act.put, List.setIfInBounds_toArray, List.set_cons_zero, List.set_cons_succ]
    refine take_d (some 7) (i := 3) (v := ?_) rfl rfl (by kernel_rfl) (by kernel_rfl) (by kernel_rfl) (fun _ _ _ h => h) (Or.inl ⟨by rfl, ?_⟩) (by assumption) ?_
    rotate_left
    · intro w hSw; (dsimp only [Cs] at hSw); go_simp; (try with_reducible rfl)
    try simp only [Act.put, List.setIfInBounds_toArray, List.set_cons_zero, List.set_cons_succ]
    refine take_d (some 8) (i := 4) (v := ?_) rfl rfl (by kernel_rfl) (by kernel_rfl) (by kernel_rfl) (fun _ _ _ h => h) (Or.inl ⟨by rfl, ?_⟩) (by assumption) ?_
    rotate_left
    · intro w hSw; (dsimp only [Cs] at hSw); go_simp; (try with_reducible rfl)
    try simp only [Act.put, List.setIfInBounds_toArray, List.set_cons_zero, List.set_cons_succ]
    refine take_d (some 9) (i := 5) (v := ?_) rfl rfl (by kernel_rfl) (by kernel_rfl) (by kernel_rfl) (fun _ _ _ h => h) (Or.inl ⟨by rfl, ?_⟩) (by assumption) ?_
    rotate_left
    · intro w hSw; (dsimp only [Cs] at hSw); go_simp; (try with_reducible rfl)
    try simp only [Act.put, List.setIfInBounds_toArray, List.set_cons_zero, List.set_cons_succ]
    refine wpAnyH_done (by kernel_rfl) ?_ _
    clear hSK
    go_wp2_with fail
    go_ret
    exact ⟨by rw [HE.out]; rfl, grown_below (bdrew (bref _)), fun q hq => rfl, fun h => by rw [HE.out] at h; cases h⟩
  · have HE := Lib.hid (show dbE n a = 0 from if_neg h1)
    have q0 : decide (a.bal < n) = false := decide_eq_false h1
    have q5 : IntKind.i64.wrap (a.bal - n) = a.bal - n := IntWalk.i64_in _ (by omega)
    clear h1
    show Calls Try.prog 53 #[.pointer (some ⟨b, o, none⟩), .pointer (some ⟨tb, 0, none⟩)] w _
    go_enter Try.func53, Try.ntmps53
    go_upto_region 1 with fail
    refine wp_region_held_drew (S := (fun W => Cs [(⟨b, o + 3, none⟩, .int .i64 a.bal), (⟨b, o + 4, none⟩, .int .i64 a.lim), (⟨tb, 0, none⟩, .int .i64 n)] W)) (by kernel_rfl) hS1.out (fun hSK => ?_)
    refine take_d (some 4) (i := 0) (v := ?_) rfl rfl (by kernel_rfl) (by kernel_rfl) (by kernel_rfl) (fun _ _ _ h => h) (Or.inl ⟨by rfl, ?_⟩) (by assumption) ?_
    rotate_left
    · intro w hSw; (dsimp only [Cs] at hSw); go_simp; (try with_reducible rfl)
    try simp only [Act.put, List.setIfInBounds_toArray, List.set_cons_zero, List.set_cons_succ]
    refine take_d (some 5) (i := 1) (v := ?_) rfl rfl (by kernel_rfl) (by kernel_rfl) (by kernel_rfl) (fun _ _ _ h => h) (Or.inl ⟨by rfl, ?_⟩) (by assumption) ?_
    rotate_left
    · intro w hSw; (dsimp only [Cs] at hSw); go_simp; (try with_reducible rfl)
    try simp only [Act.put, List.setIfInBounds_toArray, List.set_cons_zero, List.set_cons_succ]
    refine take_d (some 6) (i := 2) (v := ?_) rfl rfl (by kernel_rfl) (by kernel_rfl) (by kernel_rfl) (fun _ _ _ h => h) (Or.inl ⟨by rfl, ?_⟩) (by assumption) ?_
    rotate_left
    · intro w hSw; (dsimp only [Cs] at hSw); go_simp; (try with_reducible rfl)
    try simp only [Act.put, List.setIfInBounds_toArray, List.set_cons_zero, List.set_cons_succ]
    refine take_d (some 7) (i := 3) (v := ?_) rfl rfl (by kernel_rfl) (by kernel_rfl) (by kernel_rfl) (fun _ _ _ h => h) (Or.inl ⟨by rfl, ?_⟩) (by assumption) ?_
    rotate_left
    · intro w hSw; (dsimp only [Cs] at hSw); go_simp; (try with_reducible rfl)
    try simp only [Act.put, List.setIfInBounds_toArray, List.set_cons_zero, List.set_cons_succ]
    refine take_d (some 8) (i := 4) (v := ?_) rfl rfl (by kernel_rfl) (by kernel_rfl) (by kernel_rfl) (fun _ _ _ h => h) (Or.inl ⟨by rfl, ?_⟩) (by assumption) ?_
    rotate_left
    · intro w hSw; (dsimp only [Cs] at hSw); go_simp; (try with_reducible rfl)
    try simp only [Act.put, List.setIfInBounds_toArray, List.set_cons_zero, List.set_cons_succ]
    refine take_d (some 9) (i := 5) (v := ?_) rfl rfl (by kernel_rfl) (by kernel_rfl) (by kernel_rfl) (fun _ _ _ h => h) (Or.inl ⟨by rfl, ?_⟩) (by assumption) ?_
    rotate_left
    · intro w hSw; (dsimp only [Cs] at hSw); go_simp; (try with_reducible rfl)
    try simp only [Act.put, List.setIfInBounds_toArray, List.set_cons_zero, List.set_cons_succ]
    refine wpAnyH_done (by kernel_rfl) ?_ _
    clear hSK
    go_upto_region 3 with fail
    refine region_f (fun W => Cs [(⟨b, o + 3, none⟩, .int .i64 a.bal), (⟨b, o + 4, none⟩, .int .i64 a.lim), (⟨tb, 0, none⟩, .int .i64 n)] W) [8] (by kernel_rfl) ?_
    have hSK := hS2.out
    refine take_y (some 10) (i := 0) (v := ?_) rfl rfl (by kernel_rfl) (by kernel_rfl) (by kernel_rfl) (fun _ _ _ h => h) (Or.inl ⟨by rfl, ?_⟩) ?_
    rotate_left
    · intro w _; go_simp; (try with_reducible rfl)
    try simp only [Act.put, List.setIfInBounds_toArray, List.set_cons_zero, List.set_cons_succ]
    refine take_y (some 11) (i := 1) (v := ?_) rfl rfl (by kernel_rfl) (by kernel_rfl) (by kernel_rfl) (fun _ _ _ h => h) (Or.inl ⟨by rfl, ?_⟩) ?_
    rotate_left
    · intro w _; go_simp; (try with_reducible rfl)
    try simp only [Act.put, List.setIfInBounds_toArray, List.set_cons_zero, List.set_cons_succ]
    refine take_y (some 12) (i := 2) (v := ?_) rfl rfl (by kernel_rfl) (by kernel_rfl) (by kernel_rfl) (fun _ _ _ h => h) (Or.inl ⟨by rfl, ?_⟩) ?_
    rotate_left
    · intro w _; go_simp; (try with_reducible rfl)
    try simp only [Act.put, List.setIfInBounds_toArray, List.set_cons_zero, List.set_cons_succ]
    refine take_f (some 13) [5, 6, 7, 8] (i := 3) (v := ?_) rfl rfl (by kernel_rfl) (by kernel_rfl) (by kernel_rfl) (by kernel_rfl) (fun _ _ _ h => h) (Or.inl ⟨by rfl, ?_⟩) (by assumption) ?_
    rotate_left
    · intro w hSw; (dsimp only [Cs] at hSw); go_simp; (try with_reducible rfl)
    try simp only [Act.put, List.setIfInBounds_toArray, List.set_cons_zero, List.set_cons_succ]
    refine take_f (some 14) [5, 6, 7, 8] (i := 4) (v := ?_) rfl rfl (by kernel_rfl) (by kernel_rfl) (by kernel_rfl) (by kernel_rfl) (fun _ _ _ h => h) (Or.inl ⟨by rfl, ?_⟩) (by assumption) ?_
    rotate_left
    · intro w hSw; (dsimp only [Cs] at hSw); go_simp; (try with_reducible rfl)
    try simp only [Act.put, List.setIfInBounds_toArray, List.set_cons_zero, List.set_cons_succ]
    refine take_y (some 15) (i := 5) (v := ?_) rfl rfl (by kernel_rfl) (by kernel_rfl) (by kernel_rfl) (fun _ _ _ h => h) (Or.inl ⟨by rfl, ?_⟩) ?_
    rotate_left
    · intro w _; go_simp; (try with_reducible rfl)
    try simp only [Act.put, List.setIfInBounds_toArray, List.set_cons_zero, List.set_cons_succ]
    refine take_y (some 16) (i := 6) (v := ?_) rfl rfl (by kernel_rfl) (by kernel_rfl) (by kernel_rfl) (fun _ _ _ h => h) (Or.inl ⟨by rfl, ?_⟩) ?_
    rotate_left
    · intro w _; go_simp; (try with_reducible rfl)
    try simp only [Act.put, List.setIfInBounds_toArray, List.set_cons_zero, List.set_cons_succ]
    refine take_y (some 17) (i := 7) (v := ?_) rfl rfl (by kernel_rfl) (by kernel_rfl) (by kernel_rfl) (fun _ _ _ h => h) (Or.inl ⟨by rfl, ?_⟩) ?_
    rotate_left
    · intro w _; go_simp; (try with_reducible rfl)
    try simp only [Act.put, List.setIfInBounds_toArray, List.set_cons_zero, List.set_cons_succ]
    refine one_f (i := 8) (by kernel_rfl) rfl (fun K hK => ?_)
    obtain ⟨z1, z2, z3, _⟩ := id hSK
    have zf1 : w.drew.drew.frozen? ⟨b, o + 3, none⟩ = false := HFZ.out (o + 3)
    go_simp
    refine hK.out _ _ (Or.inl (by kernel_rfl)) ?_
    clear hK K
    try simp only [Act.put, List.setIfInBounds_toArray, List.set_cons_zero, List.set_cons_succ]
    refine done_f (by kernel_rfl) ?_ _
    have HG := Lib.hid (show w.grownBy (w.drew.drew.setCell ⟨b, o + 3, none⟩ (.int .i64 (a.bal - n))) (some b) from ⟨rfl, rfl, rfl, by simp [World.setCell], fun k hk hn => (Below.heap_setCell _ _ _ _ (fun e => hn (congrArg some e)))⟩)
    have HO := Lib.hid (show ∀ q, (q < o ∨ o + 5 ≤ q) → (w.drew.drew.setCell ⟨b, o + 3, none⟩ (.int .i64 (a.bal - n))).cell? ⟨b, q, none⟩ = w.cell? ⟨b, q, none⟩ from fun q hq => (World.cell?_setCell_other _ _ _ _ (fun e => by first | (simp at e; omega) | simp at e)))
    have HIN := Lib.hid (show Cs [(⟨b, o, none⟩, .int .i64 (dbU n a).acc), (⟨b, o + 1, none⟩, .string (codeOf (dbU n a).ast)), (⟨b, o + 2, none⟩, .int .i64 (issOf (dbU n a).ast)), (⟨b, o + 3, none⟩, .int .i64 (dbU n a).bal), (⟨b, o + 4, none⟩, .int .i64 (dbU n a).lim)] (w.drew.drew.setCell ⟨b, o + 3, none⟩ (.int .i64 (a.bal - n))) from by
      obtain ⟨k0, k1, k2, k3, k4, _⟩ := HC.out
      exact ⟨(World.cell?_setCell_other _ _ _ _ (fun e => by simp at e)).trans k0, (World.cell?_setCell_other _ _ _ _ (fun e => by simp at e)).trans k1, (World.cell?_setCell_other _ _ _ _ (fun e => by simp at e)).trans k2, World.cell?_setCell_same _ _ _ k3, (World.cell?_setCell_other _ _ _ _ (fun e => by simp at e)).trans k4, trivial⟩)
    clear hSK z1 z2 z3 zf1
    go_wp2_with fail
    go_ret
    exact ⟨by rw [HE.out]; rfl, HG.out, HO.out, fun _ => HIN.out⟩

/-- changeLine where there is a line. -/
structure ChlOk (B : Nat) (w w' : World) (E : Int) (v' : Value) (L' : List Lin) : Prop where
  good : E = 0 → LinAt (fun b => B ≤ b) w' v' L'
  bel : ∃ b, B ≤ b ∧ w.grownBy w' (some b) ∧ ∀ A m c, v' = .slice (some A) m c → A.block = b

set_option maxRecDepth 100000 in
set_option maxHeartbeats 4000000 in
theorem chLine_run (G : Nat) (caps : Array Value) (er : Lin → Int) (up : Lin → Lin) (L : List Lin) (i : Int) (s : Nat) (a : Lin) (v : Value) (w0 w : World) (hs : s ≤ 2) (hL : ∀ (k : Nat) (a : Lin), L[k]? = some a → a.ast ≤ 2) (hlen : L.length ≤ 1000) (ha : L[findL i s L]? = some a)
    (hB : Below w0.heap.size w0 w) (h : LinAt (fun b => w0.heap.size ≤ b) w v L) (hnf : NF v w) (eg : ∀ args w, (callFunc G args).run Try.prog w = .ok (.enter G args) w) (hcl : ClL G caps er up a w0) :
    Calls Try.prog 79 #[v, valK i s, .func (.func G) #[] caps] w fun e w' => e = .returned (.int .i64 (er a)) ∧ ChlOk w0.heap.size w w' (er a) v (L.set (findL i s L) (up a)) := by
  have hFl : findL i s L < L.length := (List.getElem?_eq_some_iff.1 ha).1
  obtain ⟨b, off, hA, hP, hbl, c0, c1, c2, c3, c4⟩ : ∃ b off, (∃ c, v = .slice (some ⟨b, off, none⟩) L.length c) ∧ w0.heap.size ≤ b ∧ b < w.heap.size ∧ Cs [(⟨b, off + findL i s L * 5, none⟩, .int .i64 (a).acc), (⟨b, off + findL i s L * 5 + 1, none⟩, .string (codeOf (a).ast)), (⟨b, off + findL i s L * 5 + 2, none⟩, .int .i64 (issOf (a).ast)), (⟨b, off + findL i s L * 5 + 3, none⟩, .int .i64 (a).bal), (⟨b, off + findL i s L * 5 + 4, none⟩, .int .i64 (a).lim)] w := by
    obtain ⟨A, c, rfl, _, _⟩ := h.slice
    obtain ⟨b, off, rfl, hP, hbl, c0, c1, c2, c3, c4⟩ := linBox h ha
    exact ⟨b, off, ⟨c, rfl⟩, hP, hbl, c0, c1, c2, c3, c4, trivial⟩
  obtain ⟨c, rfl⟩ := hA
  have HC := Lib.hid (show Cs [(⟨b, off + findL i s L * 5, none⟩, .int .i64 (a).acc), (⟨b, off + findL i s L * 5 + 1, none⟩, .string (codeOf (a).ast)), (⟨b, off + findL i s L * 5 + 2, none⟩, .int .i64 (issOf (a).ast)), (⟨b, off + findL i s L * 5 + 3, none⟩, .int .i64 (a).bal), (⟨b, off + findL i s L * 5 + 4, none⟩, .int .i64 (a).lim)] w from ⟨c0, c1, c2, c3, c4⟩)
  have HFZ := Lib.hid (hnf _ _ _ _ rfl).2
  have hba := balloc (bref w) (.cells #[.int .i64 i, .string (codeOf s), .int .i64 (issOf s)] 90)
  have HK1 := Lib.hid (box3 w 90 (.int .i64 i) (.string (codeOf s)) (.int .i64 (issOf s)))
  have HIX := Lib.hid (indexL_run _ L i s _ _ hs hL hlen (h.below hba))
  unfold valK at *
  have HI := Lib.hid (show atL i s L L.length = ((findL i s L : Nat) : Int) from atL_yes hFl)
  have HH := Lib.hid h
  have HB := Lib.hid hB
  have HB1 := Lib.hid hba
  have HCL := Lib.hid hcl
  have HSL := Lib.hid h
  obtain ⟨F, hF⟩ : ∃ F, findL i s L = F := ⟨_, rfl⟩
  rw [hF] at HI HC hFl ⊢
  obtain ⟨n, hn⟩ : ∃ n, L.length = n := ⟨_, rfl⟩
  rw [hn] at HIX HI HH HSL hFl ⊢
  have hc1 : n ≤ c := by
    obtain ⟨A, c', e, h1, _⟩ := HSL.out.slice
    cases e
    rw [← hn]; exact h1
  have hf0 : (0 : Int) ≤ (F : Int) := by omega
  have hf1 : (F : Int) < (n : Int) := by omega
  obtain ⟨E, hE⟩ : ∃ E, er a = E := ⟨_, rfl⟩
  have HE := Lib.hid hE
  rw [hE]
  clear hF hn hE ha hL hlen hnf h hB hcl hba c0 c1 c2 c3 c4 HSL
  go_enter Try.func79, Try.ntmps79
  go_upto_region 1 with fail
  obtain ⟨k0, k1, k2, _⟩ := HK1.out
  go_wp2_with fail
  refine HIX.out.mono ?_
  rintro e w2 ⟨rfl, hb2⟩
  rw [HI.out]
  have HB2 := Lib.hid (bstep HB1.out hb2)
  clear hb2 k0 k1 k2
  go_wp2_with fail
  refine (HCL.out b (off + F * 5) w2 hP (Nat.lt_of_lt_of_le hbl HB2.out.size) (bstep HB.out HB2.out) (Cs.below HC.out HB2.out) (fun q => (HB2.out.frozen (p := ⟨b, q, none⟩) hbl).trans (HFZ.out q))).mono ?_
  rintro e w3 ⟨rfl, hg3, hout, hin⟩
  rw [HE.out] at hin
  have HQ := Lib.hid (show ChlOk w0.heap.size w w3 E (.slice (some ⟨b, off, none⟩) n c) (L.set F (up a)) from ⟨fun h0 => by
    obtain ⟨y0, y1, y2, y3, y4, _⟩ := hin h0
    refine RowAt.set encL_len (HH.out.below HB2.out) hg3.size (fun q hq => hout q hq) (fun j u hu => ?_)
    match j, hu with
    | 0, hu => cases hu; exact y0
    | 1, hu => cases hu; exact y1
    | 2, hu => cases hu; exact y2
    | 3, hu => cases hu; exact y3
    | 4, hu => cases hu; exact y4, b, hP, grown_trans (grown_below HB2.out) hg3, fun A m c e => by cases e; rfl⟩)
  clear hg3 hout hin
  go_wp2_with fail
  go_ret
  exact ⟨by rw [HE.out]; rfl, HQ.out⟩

set_option maxRecDepth 100000 in
set_option maxHeartbeats 4000000 in
theorem chLine_none (P : Nat → Prop) (fv : Value) (L : List Lin) (i : Int) (s : Nat) (v : Value) (w : World) (hs : s ≤ 2) (hL : ∀ (k : Nat) (a : Lin), L[k]? = some a → a.ast ≤ 2) (hlen : L.length ≤ 1000) (ha : hasL i s L = false) (h : LinAt P w v L) :
    Calls Try.prog 79 #[v, valK i s, fv] w fun e w' => e = .returned (.int .i64 70) ∧ Below w.heap.size w w' := by
  have hba := balloc (bref w) (.cells #[.int .i64 i, .string (codeOf s), .int .i64 (issOf s)] 90)
  have HK1 := Lib.hid (box3 w 90 (.int .i64 i) (.string (codeOf s)) (.int .i64 (issOf s)))
  have HIX := Lib.hid (indexL_run _ L i s _ _ hs hL hlen (h.below hba))
  obtain ⟨A, c, rfl, _, _⟩ := h.slice
  unfold valK at *
  have HI := Lib.hid (show atL i s L L.length = -1 from atL_no (of_decide_eq_false ha))
  have HB1 := Lib.hid hba
  clear hba h ha hL
  go_enter Try.func79, Try.ntmps79
  go_upto_region 1 with fail
  obtain ⟨k0, k1, k2, _⟩ := HK1.out
  go_wp2_with fail
  refine HIX.out.mono ?_
  rintro e w2 ⟨rfl, hb2⟩
  rw [HI.out]
  have HB2 := Lib.hid (bstep HB1.out hb2)
  clear hb2 k0 k1 k2
  go_wp2_with fail
  go_ret
  exact ⟨rfl, HB2.out⟩

theorem HasB.cs1 {b : Nat} {v0 : Value} {t : TypeId} {W : World} (h : HasB b (.cells #[v0] t (0, 0)) W) : W.cell? ⟨b, 0, none⟩ = some v0 := cell_of_row _ _ 0 _ _ (0, 0) h

theorem HasB.cs2 {b : Nat} {v0 v1 : Value} {t : TypeId} {W : World} (h : HasB b (.cells #[v0, v1] t (0, 0)) W) : Cs [(⟨b, 0, none⟩, v0), (⟨b, 1, none⟩, v1)] W :=
  ⟨cell_of_row _ _ 0 _ _ (0, 0) h, cell_of_row _ _ 1 _ _ (0, 0) h, trivial⟩

theorem HasB.grown {b : Nat} {o : Obj} {W W' : World} {r : Nat} (h : HasB b o W) (hg : W.grownBy W' (some r)) (hr : r ≠ b) : HasB b o W' := (hg.block b h.lt (fun e => hr (Option.some.inj e).symm)).trans h

theorem box3a (w : World) (a b c : Obj) : HasB w.heap.size a (((w.alloc a).alloc b).alloc c) ∧ HasB (w.heap.size + 1) b (((w.alloc a).alloc b).alloc c) ∧ HasB (w.heap.size + 2) c (((w.alloc a).alloc b).alloc c) := by
  have h1 : HasB w.heap.size a (w.alloc a) := heap_alloc_new _ _
  have h2 : HasB (w.alloc a).heap.size b ((w.alloc a).alloc b) := heap_alloc_new _ _
  have h3 : HasB ((w.alloc a).alloc b).heap.size c (((w.alloc a).alloc b).alloc c) := heap_alloc_new _ _
  rw [alloc_szS] at h2
  rw [alloc_szS, alloc_szS] at h3
  exact ⟨(h1.alloc _).alloc _, h2.alloc _, h3⟩

theorem set7 {b : Nat} {v0 v1 v2 v3 v4 v5 v6 u0 u1 u2 u3 u4 u5 u6 : Value} {t : TypeId} {W : World} (h : HasB b (.cells #[v0, v1, v2, v3, v4, v5, v6] t (0, 0)) W) :
    HasB b (.cells #[u0, u1, u2, u3, u4, u5, u6] t (0, 0)) (((((((W.setCell ⟨b, 0, none⟩ u0).setCell ⟨b, 1, none⟩ u1).setCell ⟨b, 2, none⟩ u2).setCell ⟨b, 3, none⟩ u3).setCell ⟨b, 4, none⟩ u4).setCell ⟨b, 5, none⟩ u5).setCell ⟨b, 6, none⟩ u6) := by
  have h0 : HasB b (.cells #[u0, v1, v2, v3, v4, v5, v6] t (0, 0)) ((W).setCell ⟨b, 0, none⟩ u0) := set_obj (k := 0) h u0
  have h1 : HasB b (.cells #[u0, u1, v2, v3, v4, v5, v6] t (0, 0)) (((W).setCell ⟨b, 0, none⟩ u0).setCell ⟨b, 1, none⟩ u1) := set_obj (k := 1) h0 u1
  have h2 : HasB b (.cells #[u0, u1, u2, v3, v4, v5, v6] t (0, 0)) ((((W).setCell ⟨b, 0, none⟩ u0).setCell ⟨b, 1, none⟩ u1).setCell ⟨b, 2, none⟩ u2) := set_obj (k := 2) h1 u2
  have h3 : HasB b (.cells #[u0, u1, u2, u3, v4, v5, v6] t (0, 0)) (((((W).setCell ⟨b, 0, none⟩ u0).setCell ⟨b, 1, none⟩ u1).setCell ⟨b, 2, none⟩ u2).setCell ⟨b, 3, none⟩ u3) := set_obj (k := 3) h2 u3
  have h4 : HasB b (.cells #[u0, u1, u2, u3, u4, v5, v6] t (0, 0)) ((((((W).setCell ⟨b, 0, none⟩ u0).setCell ⟨b, 1, none⟩ u1).setCell ⟨b, 2, none⟩ u2).setCell ⟨b, 3, none⟩ u3).setCell ⟨b, 4, none⟩ u4) := set_obj (k := 4) h3 u4
  have h5 : HasB b (.cells #[u0, u1, u2, u3, u4, u5, v6] t (0, 0)) (((((((W).setCell ⟨b, 0, none⟩ u0).setCell ⟨b, 1, none⟩ u1).setCell ⟨b, 2, none⟩ u2).setCell ⟨b, 3, none⟩ u3).setCell ⟨b, 4, none⟩ u4).setCell ⟨b, 5, none⟩ u5) := set_obj (k := 5) h4 u5
  have h6 : HasB b (.cells #[u0, u1, u2, u3, u4, u5, u6] t (0, 0)) ((((((((W).setCell ⟨b, 0, none⟩ u0).setCell ⟨b, 1, none⟩ u1).setCell ⟨b, 2, none⟩ u2).setCell ⟨b, 3, none⟩ u3).setCell ⟨b, 4, none⟩ u4).setCell ⟨b, 5, none⟩ u5).setCell ⟨b, 6, none⟩ u6) := set_obj (k := 6) h5 u6
  exact h6

end Go.Proofs.Ytfmdnhhdjjndbaa
