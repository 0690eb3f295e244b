/- The source of numbers (trustquorumplay.Src): its state in memory, and what each of its methods returns. -/
import Derived.Test.YtnnajmoedihkjaaKit
namespace Go.Proofs.Ytnnajmoedihkjaa
set_option linter.unusedVariables false
set_option linter.unusedSimpArgs false
open Go.RowKit

/-- A slice of integers that is read below block B. -/
def IsRow (k : IntKind) (w : World) (a : Option Addr) (len cap : Nat) (zs : List Int) : Prop :=
  (a = none ∧ len = 0 ∧ cap = 0 ∧ zs = []) ∨
  ∃ x, a = some x ∧ len ≤ cap ∧ cap ≤ maxLen ∧ zs.length = cap ∧ (∀ i, i < zs.length → w.cell? (x.add i) = some (.int k (zs.getD i 0))) ∧ ∀ n ∈ zs, (Lit.int k n).wf = true

/-- Block sb is a source. -/
def SrcOk (w : World) (sb : Nat) : Prop :=
  ∃ (a : Option Addr) (len cap at_ : Nat), w.heap[sb]? = some (.cells #[.slice a len cap, .int .i64 at_] 59 (0, 0)) ∧ at_ ≤ len ∧ len ≤ cap ∧ cap ≤ maxLen ∧
    ∀ i, i < len → ∃ (b off : Nat) (z : Int), a = some ⟨b, off, none⟩ ∧ b < sb ∧ w.cell? ⟨b, off + i, none⟩ = some (.int .i64 z) ∧ -9223372036854775808 ≤ z ∧ z ≤ 9223372036854775807

theorem SrcOk.lt {w : World} {sb : Nat} (h : SrcOk w sb) : sb < w.heap.size := by
  obtain ⟨a, len, cap, at_, hb, _⟩ := h
  rcases Nat.lt_or_ge sb w.heap.size with h | h
  · exact h
  · rw [Array.getElem?_eq_none h] at hb; cases hb

theorem add_block (ad : Addr) (i : Nat) : (ad.add i).block = ad.block := by unfold Addr.add; split <;> rfl

theorem cell_lt {w : World} {p : Addr} {v : Value} (h : w.cell? p = some v) : p.block < w.heap.size := by
  rcases Nat.lt_or_ge p.block w.heap.size with h1 | h1
  · exact h1
  · simp [World.cell?, Array.getElem?_eq_none h1] at h

/-- A source outlives whatever leaves its own block and the older blocks alone. -/
theorem SrcOk.keep {w w' : World} {sb : Nat} (h : SrcOk w sb) (hk : ∀ k, k < w.heap.size → w'.heap[k]? = w.heap[k]?) : SrcOk w' sb := by
  have hl := h.lt
  obtain ⟨a, len, cap, at_, hb, h1, h2, h3, h4⟩ := h
  refine ⟨a, len, cap, at_, (hk _ hl).trans hb, h1, h2, h3, fun i hi => ?_⟩
  obtain ⟨b, off, z, e1, e2, e3, e4⟩ := h4 i hi
  exact ⟨b, off, z, e1, e2, (World.cell?_of_block (hk _ (cell_lt e3))).trans e3, e4⟩

theorem SrcOk.setCell {w : World} {sb : Nat} (h : SrcOk w sb) {p : Addr} (hp : sb < p.block) (v : Value) : SrcOk (w.setCell p v) sb := by
  obtain ⟨a, len, cap, at_, hb, h1, h2, h3, h4⟩ := h
  refine ⟨a, len, cap, at_, (Below.heap_setCell _ _ _ _ (by omega)).trans hb, h1, h2, h3, fun i hi => ?_⟩
  obtain ⟨b, off, z, e1, e2, e3, e4⟩ := h4 i hi
  exact ⟨b, off, z, e1, e2, (World.cell?_of_block (Below.heap_setCell _ _ _ b (by omega))).trans e3, e4⟩

theorem SrcOk.below {w w' : World} {sb : Nat} (h : SrcOk w sb) (hb : Below w.heap.size w w') : SrcOk w' sb := h.keep hb.block

theorem SrcOk.alloc {w : World} {sb : Nat} (h : SrcOk w sb) (o : Obj) : SrcOk (w.alloc o) sb := h.below (balloc (bref _) _)

theorem SrcOk.drewN {w : World} {sb : Nat} (h : SrcOk w sb) (n : Nat) : SrcOk (w.drewN n) sb := h

theorem SrcOk.drew {w : World} {sb : Nat} (h : SrcOk w sb) : SrcOk w.drew sb := h

/-- What a call on a source leaves: new blocks, and its own block written. -/
abbrev Upto (w w' : World) (sb : Nat) : Prop := w.grownBy w' (some sb)

theorem grown_trans {a b c : World} {r : Option Nat} (h : a.grownBy b r) (k : b.grownBy c r) : a.grownBy c r :=
  ⟨k.os.trans h.os, k.tape.trans h.tape, k.output.trans h.output, Nat.le_trans h.size k.size, fun n hn hr => (k.block n (Nat.lt_of_lt_of_le hn h.size) hr).trans (h.block n hn hr)⟩

theorem grown_below {a b : World} {r : Option Nat} (h : Below a.heap.size a b) : a.grownBy b r := ⟨h.os, h.tape, h.output, h.size, fun n hn _ => h.block n hn⟩

theorem mod_fact (z n : Int) (h0 : -9223372036854775808 ≤ z) (h1 : z ≤ 9223372036854775807) (hn : 1 ≤ n) (hn1 : n ≤ 1000000000000000) :
    0 ≤ (wrap64 (z.tmod n + n)).tmod n ∧ (wrap64 (z.tmod n + n)).tmod n < n := by
  have h2 : -n < z.tmod n ∧ z.tmod n < n := by
    have a := Int.lt_tmod_of_pos z (show 0 < n by omega)
    have b := Int.tmod_lt_of_pos z (show 0 < n by omega)
    omega
  rw [IntWalk.wrap64_in _ (by omega)]
  exact ⟨Int.tmod_nonneg _ (by omega), Int.tmod_lt_of_pos _ (by omega)⟩

set_option maxHeartbeats 400000 in
theorem N_run (w : World) (sb : Nat) (n : Int) (hn : 1 ≤ n) (hn1 : n ≤ 1000000000000000) (hs : SrcOk w sb) :
    Calls Try.prog 58 #[.pointer (some ⟨sb, 0, none⟩), .int .i64 n] w fun e w' => ∃ r : Int, 0 ≤ r ∧ r < n ∧ e = .returned (.int .i64 r) ∧ SrcOk w' sb ∧ w.grownBy w' (some sb) := by
  obtain ⟨a, len, cap, at_, hb, h1, h2, h3, h4⟩ := id hs
  have hl := hs.lt
  have c0 : w.cell? ⟨sb, 0, none⟩ = some (.slice a len cap) := by simp [World.cell?, hb]
  have c1 : w.cell? ⟨sb, 1, none⟩ = some (.int .i64 at_) := by simp [World.cell?, hb]
  have hf : w.frozen? ⟨sb, 1, none⟩ = false := by simp [World.frozen?, hb]
  have hm : len ≤ 9223372036854775807 := by unfold maxLen at h3; omega
  rcases Nat.lt_or_ge at_ len with hlt | hge
  · obtain ⟨b, off, z, rfl, hne, hz, z0, z1⟩ := h4 at_ hlt
    have HB := Lib.hid hb
    have HS := Lib.hid hs
    have H4 := Lib.hid h4
    clear hb h4 hs
    have hd : decide ((len : Int) ≤ (at_ : Int)) = false := by simpa using hlt
    have hn0 : decide (n < 1) = false := by simpa using hn
    go_enter Try.func58, Try.ntmps58
    go_wp2_with fail
    go_quiet (fail)
    go_wp2_with fail
    have hb2 : ((w.drewN nq).setCell ⟨sb, 1, none⟩ (.int .i64 ((at_ : Int) + 1))).heap[sb]? = some (.cells #[.slice (some ⟨b, off, none⟩) len cap, .int .i64 ((at_ : Int) + 1)] 59 (0, 0)) := by
      have := HB.out
      simp [World.setCell, Array.getElem?_modify, this]
    have hold : ∀ k, k < w.heap.size → k ≠ sb → ((w.drewN nq).setCell ⟨sb, 1, none⟩ (.int .i64 ((at_ : Int) + 1))).heap[k]? = w.heap[k]? := by
      intro k hk hks
      rw [Below.heap_setCell _ _ _ _ (by simpa using hks)]
      rfl
    have hgr : w.grownBy ((w.drewN nq).setCell ⟨sb, 1, none⟩ (.int .i64 ((at_ : Int) + 1))) (some sb) :=
      ⟨rfl, rfl, rfl, by simp [World.setCell], fun k hk hks => hold k hk (fun e => hks (by rw [e]))⟩
    generalize (w.drewN nq).setCell ⟨sb, 1, none⟩ (.int .i64 ((at_ : Int) + 1)) = w2 at *
    have d0 : w2.cell? ⟨sb, 0, none⟩ = some (.slice (some ⟨b, off, none⟩) len cap) := by simp [World.cell?, hb2]
    have d1 : w2.cell? ⟨sb, 1, none⟩ = some (.int .i64 ((at_ : Int) + 1)) := by simp [World.cell?, hb2]
    have d2 : w2.cell? ⟨b, off + at_, none⟩ = some (.int .i64 z) := (World.cell?_of_block (hold b (cell_lt hz) (by omega))).trans hz
    have HB2 := Lib.hid hb2
    have HO := Lib.hid hold
    clear hb2 hold hz c0 c1 hf
    have t0 : (at_ : Int) < (len : Int) := by omega
    have t1 : ((at_ : Int) + 1 - 1) = (at_ : Int) := by omega
    go_quiet (fail)
    go_wp2_with fail
    go_ret
    have hmod := mod_fact z n z0 z1 hn hn1
    refine ⟨_, hmod.1, hmod.2, rfl, SrcOk.drewN ⟨some ⟨b, off, none⟩, len, cap, at_ + 1, HB2.out, by omega, h2, h3, fun i hi => ?_⟩ _, grown_trans hgr (grown_below (bdrewN (bref _) _))⟩
    obtain ⟨b', off', z', e1, e2, e3, e4⟩ := H4.out i hi
    exact ⟨b', off', z', e1, e2, (World.cell?_of_block (HO.out b' (cell_lt e3) (by omega))).trans e3, e4⟩
  · have HB := Lib.hid hb
    have HS := Lib.hid hs
    clear hb h4 hs
    have hd : decide ((len : Int) ≤ (at_ : Int)) = true := by simpa using hge
    go_enter Try.func58, Try.ntmps58
    go_wp2_with fail
    go_quiet (fail)
    go_wp2_with fail
    go_ret
    exact ⟨0, by omega, by omega, rfl, HS.out.drewN _, grown_below (bdrewN (bref _) _)⟩

set_option maxHeartbeats 400000 in
theorem Range_run (w : World) (sb : Nat) (lo hi : Int) (h0 : -1000000 ≤ lo) (h1 : lo ≤ hi) (h2 : hi ≤ 1000000000000) (hs : SrcOk w sb) :
    Calls Try.prog 28 #[.pointer (some ⟨sb, 0, none⟩), .int .i64 lo, .int .i64 hi] w fun e w' => ∃ r : Int, lo ≤ r ∧ r ≤ hi ∧ e = .returned (.int .i64 r) ∧ SrcOk w' sb ∧ w.grownBy w' (some sb) := by
  have HS := Lib.hid hs
  clear hs
  go_enter Try.func28, Try.ntmps28
  go_wp2_with fail
  refine (N_run _ _ _ (by omega) (by omega) HS.out).mono ?_
  rintro e w1 ⟨r, r0, r1, rfl, hs1, hg1⟩
  go_wp2_with fail
  go_ret
  exact ⟨lo + r, by omega, by omega, rfl, hs1, hg1⟩

set_option maxHeartbeats 400000 in
theorem Pick_run (w : World) (sb g : Nat) (l : List Int) (n : Nat) (hn : l.length = n) (hn0 : 1 ≤ n) (hn1 : n ≤ 1000) (hc : ∀ j, j < n → w.cell? ⟨g, j, none⟩ = some (.int .i64 (l.getD j 0))) (hne : g ≠ sb) (hs : SrcOk w sb) :
    Calls Try.prog 57 #[.pointer (some ⟨sb, 0, none⟩), .slice (some ⟨g, 0, none⟩) n n] w fun e w' => ∃ j, j < n ∧ e = .returned (.int .i64 (l.getD j 0)) ∧ SrcOk w' sb ∧ w.grownBy w' (some sb) := by
  have HS := Lib.hid hs
  have HC := Lib.hid hc
  have HN := Lib.hid hn
  clear hs hc hn
  go_enter Try.func57, Try.ntmps57
  go_wp2_with fail
  refine (N_run _ _ _ (by omega) (by omega) HS.out).mono ?_
  rintro e w1 ⟨r, r0, r1, rfl, hs1, hg1⟩
  obtain ⟨j, rfl⟩ := Int.eq_ofNat_of_zero_le r0
  have hj : j < n := by omega
  have hcell : w1.cell? ⟨g, j, none⟩ = some (.int .i64 (l.getD j 0)) := (World.cell?_of_block (hg1.block g (cell_lt (HC.out j hj)) (by simpa using hne))).trans (HC.out j hj)
  obtain ⟨x, hx⟩ : ∃ x, l.getD j 0 = x := ⟨_, rfl⟩
  rw [hx] at hcell
  have HX := Lib.hid hx
  clear hx
  have HS1 := Lib.hid hs1
  have HG1 := Lib.hid hg1
  clear hs1 hg1
  go_wp2_with fail
  go_ret
  exact ⟨j, hj, by rw [HX.out]; rfl, HS1.out, HG1.out⟩

set_option maxHeartbeats 400000 in
theorem Text_run (w : World) (sb g : Nat) (l : List ByteArray) (n : Nat) (hn : l.length = n) (hn0 : 1 ≤ n) (hn1 : n ≤ 1000) (hc : ∀ j, j < n → w.cell? ⟨g, j, none⟩ = some (.string (l.getD j ByteArray.empty))) (hne : g ≠ sb) (hs : SrcOk w sb) :
    Calls Try.prog 59 #[.pointer (some ⟨sb, 0, none⟩), .slice (some ⟨g, 0, none⟩) n n] w fun e w' => ∃ j, j < n ∧ e = .returned (.string (l.getD j ByteArray.empty)) ∧ SrcOk w' sb ∧ w.grownBy w' (some sb) := by
  have HS := Lib.hid hs
  have HC := Lib.hid hc
  have HN := Lib.hid hn
  clear hs hc hn
  go_enter Try.func59, Try.ntmps59
  go_wp2_with fail
  refine (N_run _ _ _ (by omega) (by omega) HS.out).mono ?_
  rintro e w1 ⟨r, r0, r1, rfl, hs1, hg1⟩
  obtain ⟨j, rfl⟩ := Int.eq_ofNat_of_zero_le r0
  have hj : j < n := by omega
  have hcell : w1.cell? ⟨g, j, none⟩ = some (.string (l.getD j ByteArray.empty)) := (World.cell?_of_block (hg1.block g (cell_lt (HC.out j hj)) (by simpa using hne))).trans (HC.out j hj)
  obtain ⟨x, hx⟩ : ∃ x, l.getD j ByteArray.empty = x := ⟨_, rfl⟩
  rw [hx] at hcell
  have HX := Lib.hid hx
  clear hx
  have HS1 := Lib.hid hs1
  have HG1 := Lib.hid hg1
  clear hs1 hg1
  go_wp2_with fail
  go_ret
  exact ⟨j, hj, by rw [HX.out]; rfl, HS1.out, HG1.out⟩

/-- The five values: none, a, b, c, aa; in their order. -/
def valOf (i : Nat) : ByteArray := match i with | 1 => ⟨#[97]⟩ | 2 => ⟨#[98]⟩ | 3 => ⟨#[99]⟩ | 4 => ⟨#[97, 97]⟩ | _ => ⟨#[]⟩

theorem src_new {w : World} {x : Addr} {L cap : Nat} {zs : List Int} (hL : L ≤ cap) (h2 : cap ≤ maxLen) (h3 : zs.length = cap)
    (h4 : ∀ i, i < zs.length → w.cell? (x.add i) = some (.int .i64 (zs.getD i 0))) (h5 : ∀ n ∈ zs, (Lit.int .i64 n).wf = true) :
    SrcOk (w.alloc (.cells #[.slice (some x) L cap, .int .i64 0] 59)) w.heap.size := by
  refine ⟨some x, L, cap, 0, heap_alloc_new _ _, by omega, hL, h2, fun i hi => ?_⟩
  obtain ⟨b, off, rfl, hc⟩ := Go.ints_at h4 (by omega)
  have h6 := hc i (by omega)
  have hb := cell_lt h6
  refine ⟨b, off, zs.getD i 0, rfl, by simp at hb; omega, (World.cell?_alloc_lt _ _ _ hb).trans h6, ?_⟩
  have hm : zs.getD i 0 ∈ zs := by
    rw [List.getD_eq_getElem?_getD, List.getElem?_eq_getElem (by omega)]
    exact List.getElem_mem _
  exact bounds_i64 (h5 _ hm)

set_option maxHeartbeats 400000 in
theorem New_run (w : World) (a : Option Addr) (len cap : Nat) (zs : List Int) (hr : IsRow .i64 w a len cap zs) :
    Calls Try.prog 7 #[.slice a len cap] w fun e w' => e = .returned (.pointer (some ⟨w.heap.size, 0, none⟩)) ∧ SrcOk w' w.heap.size ∧ Below w.heap.size w w' := by
  rcases hr with ⟨rfl, rfl, rfl, rfl⟩ | ⟨x, rfl, h1, h2, h3, h4, h5⟩
  · go_enter Try.func7, Try.ntmps7
    go_wp2_with fail
    go_ret
    refine ⟨rfl, ⟨none, 0, 0, 0, heap_alloc_new _ _, by omega, by omega, by unfold maxLen; omega, fun i hi => by omega⟩, balloc (bref _) _⟩
  · have hm : cap ≤ 9223372036854775807 := by unfold maxLen at h2; omega
    have H3 := Lib.hid h3
    have H4 := Lib.hid h4
    have H5 := Lib.hid h5
    clear h3 h4 h5
    by_cases h8 : len ≤ 800
    all_goals
      go_enter Try.func7, Try.ntmps7
      go_wp2_with fail
    all_goals first | (exfalso; omega) | skip
    all_goals
      go_ret
      exact ⟨rfl, src_new (by omega) h2 H3.out H4.out H5.out, balloc (bref _) _⟩

end Go.Proofs.Ytnnajmoedihkjaa
