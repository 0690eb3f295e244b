/- The source of numbers (trustquorummake.Tape): its state in memory, and what each of its methods returns. -/
import Derived.Test.YtfghnkgllmofgaaSrc
namespace Go.Proofs.Ytfghnkgllmofgaa
set_option linter.unusedVariables false
set_option linter.unusedSimpArgs false
open Go.RowKit

/-- Block sb is a source. -/
def TapeOk (w : World) (sb : Nat) : Prop :=
  ∃ (a : Option Addr) (len cap at_ : Nat), w.heap[sb]? = some (.cells #[.slice a len cap, .int .i64 at_] 44 (0, 0)) ∧ at_ ≤ len ∧ len ≤ cap ∧ cap ≤ maxLen ∧
    ∀ i, i < len → ∃ (b off : Nat) (z : Int), a = some ⟨b, off, none⟩ ∧ b < sb ∧ w.cell? ⟨b, off + i, none⟩ = some (.int .i64 z) ∧ -9223372036854775808 ≤ z ∧ z ≤ 9223372036854775807

theorem TapeOk.lt {w : World} {sb : Nat} (h : TapeOk w sb) : sb < w.heap.size := by
  obtain ⟨a, len, cap, at_, hb, _⟩ := h
  rcases Nat.lt_or_ge sb w.heap.size with h | h
  · exact h
  · rw [Array.getElem?_eq_none h] at hb; cases hb

/-- A source outlives whatever leaves its own block and the older blocks alone. -/
theorem TapeOk.keep {w w' : World} {sb : Nat} (h : TapeOk w sb) (hk : ∀ k, k < w.heap.size → w'.heap[k]? = w.heap[k]?) : TapeOk w' sb := by
  have hl := h.lt
  obtain ⟨a, len, cap, at_, hb, h1, h2, h3, h4⟩ := h
  refine ⟨a, len, cap, at_, (hk _ hl).trans hb, h1, h2, h3, fun i hi => ?_⟩
  obtain ⟨b, off, z, e1, e2, e3, e4⟩ := h4 i hi
  exact ⟨b, off, z, e1, e2, (World.cell?_of_block (hk _ (cell_lt e3))).trans e3, e4⟩

theorem TapeOk.setCell {w : World} {sb : Nat} (h : TapeOk w sb) {p : Addr} (hp : sb < p.block) (v : Value) : TapeOk (w.setCell p v) sb := by
  obtain ⟨a, len, cap, at_, hb, h1, h2, h3, h4⟩ := h
  refine ⟨a, len, cap, at_, (Below.heap_setCell _ _ _ _ (by omega)).trans hb, h1, h2, h3, fun i hi => ?_⟩
  obtain ⟨b, off, z, e1, e2, e3, e4⟩ := h4 i hi
  exact ⟨b, off, z, e1, e2, (World.cell?_of_block (Below.heap_setCell _ _ _ b (by omega))).trans e3, e4⟩

theorem TapeOk.below {w w' : World} {sb : Nat} (h : TapeOk w sb) (hb : Below w.heap.size w w') : TapeOk w' sb := h.keep hb.block

theorem TapeOk.alloc {w : World} {sb : Nat} (h : TapeOk w sb) (o : Obj) : TapeOk (w.alloc o) sb := h.below (balloc (bref _) _)

theorem TapeOk.drewN {w : World} {sb : Nat} (h : TapeOk w sb) (n : Nat) : TapeOk (w.drewN n) sb := h

theorem TapeOk.drew {w : World} {sb : Nat} (h : TapeOk w sb) : TapeOk w.drew sb := h

theorem tape_step {w : World} {sb len cap at_ : Nat} {a : Option Addr} (hb : w.heap[sb]? = some (.cells #[.slice a len cap, .int .i64 at_] 44 (0, 0))) (h1 : at_ < len) (h2 : len ≤ cap) (h3 : cap ≤ maxLen)
    (h4 : ∀ i, i < len → ∃ (b off : Nat) (z : Int), a = some ⟨b, off, none⟩ ∧ b < sb ∧ w.cell? ⟨b, off + i, none⟩ = some (.int .i64 z) ∧ -9223372036854775808 ≤ z ∧ z ≤ 9223372036854775807) (k : Nat) :
    TapeOk ((w.drewN k).setCell ⟨sb, 1, none⟩ (.int .i64 ((at_ : Int) + 1))) sb ∧ w.grownBy ((w.drewN k).setCell ⟨sb, 1, none⟩ (.int .i64 ((at_ : Int) + 1))) (some sb) := by
  have hold : ∀ k', k' ≠ sb → ((w.drewN k).setCell ⟨sb, 1, none⟩ (.int .i64 ((at_ : Int) + 1))).heap[k']? = w.heap[k']? := by
    intro k' hks
    rw [Below.heap_setCell _ _ _ _ (by simpa using hks)]
    rfl
  refine ⟨⟨a, len, cap, at_ + 1, ?_, by omega, h2, h3, fun i hi => ?_⟩, ⟨rfl, rfl, rfl, by simp [World.setCell], fun k' _ hks => hold k' (fun e => hks (by rw [e]))⟩⟩
  · simp [World.setCell, Array.getElem?_modify, hb]
  · obtain ⟨b, off, z, e1, e2, e3, e4⟩ := h4 i hi
    exact ⟨b, off, z, e1, e2, (World.cell?_of_block (hold b (by omega))).trans e3, e4⟩

set_option maxHeartbeats 400000 in
theorem TN_run (w : World) (sb : Nat) (n : Int) (hn : 1 ≤ n) (hn1 : n ≤ 1000000000000000) (hs : TapeOk w sb) :
    Calls Try.prog 15 #[.pointer (some ⟨sb, 0, none⟩), .int .i64 n] w fun e w' => ∃ r : Int, 0 ≤ r ∧ r < n ∧ e = .returned (.int .i64 r) ∧ TapeOk w' sb ∧ w.grownBy w' (some sb) := by
  obtain ⟨a, len, cap, at_, hb, h1, h2, h3, h4⟩ := id hs
  have hl := hs.lt
  have c0 : w.cell? ⟨sb, 0, none⟩ = some (.slice a len cap) := by simp [World.cell?, hb]
  have c1 : w.cell? ⟨sb, 1, none⟩ = some (.int .i64 at_) := by simp [World.cell?, hb]
  have hf : w.frozen? ⟨sb, 1, none⟩ = false := by simp [World.frozen?, hb]
  have hm : len ≤ 9223372036854775807 := by unfold maxLen at h3; omega
  rcases Nat.lt_or_ge at_ len with hlt | hge
  · obtain ⟨b, off, z, rfl, hne, hz, z0, z1⟩ := h4 at_ hlt
    have ta := Int.lt_tmod_of_pos z (show 0 < n by omega)
    have tb := Int.tmod_lt_of_pos z (show 0 < n by omega)
    have HT := Lib.hid (fun k => tape_step hb hlt h2 h3 h4 k)
    have hd : decide ((len : Int) ≤ (at_ : Int)) = false := by simpa using hlt
    have t0 : (at_ : Int) < (len : Int) := by omega
    clear hb h4 hs
    by_cases hneg : z.tmod n < 0
    all_goals
      go_enter Try.func15, Try.ntmps15
      go_wp2_with fail
      go_quiet (fail)
      go_wp2_with fail
      go_quiet (fail)
      go_wp2_with fail
      go_ret
    · exact ⟨z.tmod n + n, by omega, by omega, rfl, (HT.out _).1, (HT.out _).2⟩
    · exact ⟨z.tmod n, by omega, by omega, rfl, (HT.out _).1, (HT.out _).2⟩
  · have HS := Lib.hid hs
    clear hb h4 hs
    have hd : decide ((len : Int) ≤ (at_ : Int)) = true := by simpa using hge
    go_enter Try.func15, Try.ntmps15
    go_wp2_with fail
    go_quiet (fail)
    go_wp2_with fail
    go_ret
    exact ⟨0, by omega, by omega, rfl, HS.out.drewN _, grown_below (bdrewN (bref _) _)⟩

set_option maxHeartbeats 400000 in
theorem TRange_run (w : World) (sb : Nat) (lo hi : Int) (h0 : -1000000 ≤ lo) (h1 : lo ≤ hi) (h2 : hi ≤ 1000000000000) (hs : TapeOk w sb) :
    Calls Try.prog 14 #[.pointer (some ⟨sb, 0, none⟩), .int .i64 lo, .int .i64 hi] w fun e w' => ∃ r : Int, lo ≤ r ∧ r ≤ hi ∧ e = .returned (.int .i64 r) ∧ TapeOk w' sb ∧ w.grownBy w' (some sb) := by
  have HS := Lib.hid hs
  clear hs
  go_enter Try.func14, Try.ntmps14
  go_wp2_with fail
  refine (TN_run _ _ _ (by omega) (by omega) HS.out).mono ?_
  rintro e w1 ⟨r, r0, r1, rfl, hs1, hg1⟩
  go_wp2_with fail
  go_ret
  exact ⟨lo + r, by omega, by omega, rfl, hs1, hg1⟩

theorem tape_new {w : World} {x : Addr} {L cap : Nat} {zs : List Int} (hL : L ≤ cap) (h2 : cap ≤ maxLen) (h3 : zs.length = cap)
    (h4 : ∀ i, i < zs.length → w.cell? (x.add i) = some (.int .i64 (zs.getD i 0))) (h5 : ∀ n ∈ zs, (Lit.int .i64 n).wf = true) :
    TapeOk (w.alloc (.cells #[.slice (some x) L cap, .int .i64 0] 44)) w.heap.size := by
  refine ⟨some x, L, cap, 0, heap_alloc_new _ _, by omega, hL, h2, fun i hi => ?_⟩
  obtain ⟨b, off, rfl, hc⟩ := Go.ints_at h4 (by omega)
  have h6 := hc i (by omega)
  have hb := cell_lt h6
  refine ⟨b, off, zs.getD i 0, rfl, by simp at hb; omega, (World.cell?_alloc_lt _ _ _ hb).trans h6, ?_⟩
  have hm : zs.getD i 0 ∈ zs := by
    rw [List.getD_eq_getElem?_getD, List.getElem?_eq_getElem (by omega)]
    exact List.getElem_mem _
  exact bounds_i64 (h5 _ hm)

set_option maxHeartbeats 400000 in
theorem TNew_run (w : World) (a : Option Addr) (len cap : Nat) (zs : List Int) (hr : IsRow .i64 w a len cap zs) :
    Calls Try.prog 5 #[.slice a len cap] w fun e w' => e = .returned (.pointer (some ⟨w.heap.size, 0, none⟩)) ∧ TapeOk w' w.heap.size ∧ Below w.heap.size w w' := by
  rcases hr with ⟨rfl, rfl, rfl, rfl⟩ | ⟨x, rfl, h1, h2, h3, h4, h5⟩
  · go_enter Try.func5, Try.ntmps5
    go_wp2_with fail
    go_ret
    refine ⟨rfl, ⟨none, 0, 0, 0, heap_alloc_new _ _, by omega, by omega, by unfold maxLen; omega, fun i hi => by omega⟩, balloc (bref _) _⟩
  · have hm : cap ≤ 9223372036854775807 := by unfold maxLen at h2; omega
    have H3 := Lib.hid h3
    have H4 := Lib.hid h4
    have H5 := Lib.hid h5
    clear h3 h4 h5
    by_cases h8 : len ≤ 400
    all_goals
      go_enter Try.func5, Try.ntmps5
      go_wp2_with fail
    all_goals first | (exfalso; omega) | skip
    all_goals
      go_ret
      exact ⟨rfl, tape_new (by omega) h2 H3.out H4.out H5.out, balloc (bref _) _⟩

end Go.Proofs.Ytfghnkgllmofgaa
