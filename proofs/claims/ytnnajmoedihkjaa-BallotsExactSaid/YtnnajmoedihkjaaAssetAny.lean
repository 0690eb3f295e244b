/- amount.Native, amount.Asset, amount.Less and the reference's at any code and issuer. -/
import Derived.Test.YtnnajmoedihkjaaAsset
import Derived.Laws.RangeAny
import Derived.PlainAid
namespace Go.Proofs.Ytnnajmoedihkjaa
set_option linter.unusedVariables false
set_option linter.unusedSimpArgs false
open Go.RowKit Go.PlainAid

/-- An asset's two cells. -/
def Cs2 (g : Nat) (B : ByteArray) (i : Int) (W : World) : Prop := W.cell? ⟨g, 0, none⟩ = some (.string B) ∧ W.cell? ⟨g, 1, none⟩ = some (.int .i64 i)
theorem Cs2.below {g : Nat} {B : ByteArray} {i : Int} {W W' : World} (h : Cs2 g B i W) (hb : Below W.heap.size W W') : Cs2 g B i W' := ⟨(hb.cell (cell_lt h.1)).trans h.1, (hb.cell (cell_lt h.2)).trans h.2⟩
theorem Cs2.new (w : World) (B : ByteArray) (i : Int) : Cs2 w.heap.size B i (w.alloc (.cells #[.string B, .int .i64 i] 43)) := ⟨row_new w _ _ 0, row_new w _ _ 1⟩
theorem decide_eq_of {p : Prop} [Decidable p] {b : Bool} (h : p ↔ b = true) : decide p = b := by cases b <;> simp_all

def natV (B : ByteArray) (i : Int) : Bool := (B.toList == []) && (i == 0)
def upN (n : Int) : Bool := decide (65 ≤ n) && decide (n ≤ 90)
def upAll (B : ByteArray) : Bool := (List.range B.size).all fun k => upN (bt B k)
def assetV (B : ByteArray) (i : Int) : Bool := natV B i || (upAll B && decide (1 ≤ B.size ∧ B.size ≤ 4) && decide (1 ≤ i ∧ i ≤ 1000))

set_option maxHeartbeats 1000000 in
theorem native_any (B : ByteArray) (i : Int) (w : World) : Calls Try.prog 53 #[.agg #[.string B, .int .i64 i]] w fun e w' => e = .returned (.bool (natV B i)) ∧ Below w.heap.size w w' := by
  go_enter Try.func53, Try.ntmps53
  go_wp2
  all_goals
    go_ret
    exact ⟨by unfold natV; simp_all, balloc (bref _) _⟩

set_option maxHeartbeats 1000000 in
theorem rnative_any (B : ByteArray) (i : Int) (w : World) : Calls Try.prog 54 #[.agg #[.string B, .int .i64 i]] w fun e w' => e = .returned (.bool (natV B i)) ∧ Below w.heap.size w w' := by
  go_enter Try.func54, Try.ntmps54
  go_wp2
  all_goals
    go_ret
    exact ⟨by unfold natV; simp_all, balloc (bref _) _⟩

theorem iterB (w : World) (s : ByteArray) (pos : Nat) : Below w.heap.size w (w.iter s pos) := balloc (bref w) (.stringIter s pos)
theorem upAll_yes {B : ByteArray} (h : ∀ k, k < B.size → upN (bt B k) = true) : upAll B = true := by
  unfold upAll
  rw [List.all_eq_true]
  intro k hk
  exact h k (List.mem_range.1 hk)
theorem upAll_no {B : ByteArray} {k : Nat} (hk : k < B.size) (h : upN (bt B k) = false) : upAll B = false := by
  unfold upAll
  rw [List.all_eq_false]
  exact ⟨k, List.mem_range.2 hk, by rw [h]; simp⟩
theorem assetV_nat {B : ByteArray} {i : Int} (h : natV B i = true) : assetV B i = true := by unfold assetV; rw [h]; rfl
theorem assetV_bad {B : ByteArray} {i : Int} (h : natV B i = false) (h2 : upAll B = false) : assetV B i = false := by unfold assetV; rw [h, h2]; rfl
theorem assetV_end {B : ByteArray} {i : Int} (h : natV B i = false) (h2 : upAll B = true) : assetV B i = (decide (1 ≤ B.size ∧ B.size ≤ 4) && decide (1 ≤ i ∧ i ≤ 1000)) := by unfold assetV; rw [h, h2]; rfl
/-- What a range over a string yields at a byte that is no capital letter is no capital letter. -/
theorem rune_out {B : ByteArray} {q : Nat} (hq : q < B.size) (h : upN (bt B q) = false) : ((Utf8.decode B q).1 < 65 ∨ 90 < (Utf8.decode B q).1) ∧ (Utf8.decode B q).1 ≤ 2147483647 := by
  refine ⟨?_, decode_le B q⟩
  by_cases ha : (B[q]'hq).toNat < 128
  · rw [decode_ascii B q hq ha]
    have hb := get_bt B q hq
    rw [← hb] at h
    unfold upN at h
    rw [Bool.and_eq_false_iff] at h
    rcases h with h | h
    · left
      have := of_decide_eq_false h
      show (B[q]'hq).toNat < 65
      omega
    · right
      have := of_decide_eq_false h
      show 90 < (B[q]'hq).toNat
      omega
  · right
    have := (decode_high B q hq (by omega)).1
    omega

set_option maxRecDepth 100000 in
set_option maxHeartbeats 4000000 in
theorem asset_any (B : ByteArray) (i : Int) (w : World) (hsz : B.size ≤ 1000) : Calls Try.prog 51 #[.agg #[.string B, .int .i64 i]] w fun e w' => e = .returned (.bool (assetV B i)) ∧ Below w.heap.size w w' := by
  have HN := Lib.hid (fun W => native_any B i W)
  cases hn : natV B i
  · rw [hn] at HN
    have HV0 := Lib.hid hn
    clear hn
    go_enter Try.func51, Try.ntmps51
    go_wp2_with fail
    refine (HN.out _).mono ?_
    rintro e w1 ⟨rfl, hb1⟩
    have HB1 := Lib.hid (bstep (balloc (bref w) (.cells #[.string B, .int .i64 i] 43)) hb1)
    have HC1 := Lib.hid (show Cs2 w.heap.size B i w1 from ((Cs2.new w B i).below hb1))
    obtain ⟨d0, d1⟩ := HC1.out
    clear hb1
    go_wp2_with fail
    go_loopw [] (fun W => ∃ q : Nat, q ≤ B.size ∧ Hid (∀ k, k < q → upN (bt B k) = true) ∧ W = w1.iter B q) (fun W => B.size - W.iterPos w1.heap.size)
    case atStart => exact ⟨0, by omega, Lib.hid (fun k hk => by omega), rfl⟩
    case round =>
      obtain ⟨q, hq, hall, rfl⟩ := hrel
      by_cases hlt : q < B.size
      · cases hu : upN (bt B q)
        · obtain ⟨ho, hle⟩ := rune_out hlt hu
          have HR := Lib.hid (assetV_bad HV0.out (upAll_no hlt hu))
          have hnx : ∀ ty, (Instr.next (.pointer (some ⟨w1.heap.size, 0, none⟩)) true ty).run Try.prog (w1.iter B q) = _ := fun ty => run_next_any w1 B q ty hlt
          have HI := Lib.hid (bstep HB1.out (iterB w1 B (q + (Utf8.decode B q).2)))
          generalize (Utf8.decode B q).1 = d at *
          generalize (Utf8.decode B q).2 = d2 at *
          clear hu
          rcases ho with ho | ho
          · have q0 : (d : Int) < 65 := by omega
            go_wp2_with fail
            go_ret
            exact ⟨by rw [HR.out]; rfl, HI.out⟩
          · have q0 : ¬ (d : Int) < 65 := by omega
            have q1 : (90 : Int) < (d : Int) := by omega
            go_wp2_with fail
            go_ret
            exact ⟨by rw [HR.out]; rfl, HI.out⟩
        · have hb := get_bt B q hlt
          have hu2 := hu
          unfold upN at hu2
          rw [Bool.and_eq_true, decide_eq_true_eq, decide_eq_true_eq, ← hb] at hu2
          obtain ⟨hu0, hu1⟩ := hu2
          have hnx : ∀ ty, (Instr.next (.pointer (some ⟨w1.heap.size, 0, none⟩)) true ty).run Try.prog (w1.iter B q) = _ := fun ty => run_next_ascii w1 B q ty hlt (by omega)
          have HALL := Lib.hid (show ∀ k, k < q + 1 → upN (bt B k) = true from fun k hk => by
            rcases Nat.lt_or_ge k q with h | h
            · exact hall.out k h
            · obtain rfl : k = q := by omega
              exact hu)
          generalize (B[q]'hlt).toNat = d at *
          clear hu hall hb
          go_wp2_with fail
          go_roundw
          case rel => exact ⟨q + 1, by omega, HALL, rfl⟩
          case measure => simp [World.iterPos, World.iter_heap]; omega
      · obtain rfl : q = B.size := by omega
        have HR := Lib.hid (assetV_end HV0.out (upAll_yes hall.out))
        have hnx : ∀ ty, (Instr.next (.pointer (some ⟨w1.heap.size, 0, none⟩)) true ty).run Try.prog (w1.iter B B.size) = _ := fun ty => run_next_end w1 B B.size ty (by omega)
        have hbi := iterB w1 B B.size
        have HI := Lib.hid (bstep HB1.out hbi)
        obtain ⟨e0, e1⟩ := HC1.out.below hbi
        clear d0 d1 hall hbi
        cases c0 : decide ((1 : Int) ≤ (B.size : Int)) <;> cases c1 : decide ((B.size : Int) ≤ 4) <;> cases c2 : decide (1 ≤ i) <;> cases c3 : decide (i ≤ 1000)
        all_goals (first | (exfalso; simp only [decide_eq_true_eq, decide_eq_false_iff_not] at c0 c1 c2 c3; omega) | skip)
        all_goals
          have HQ := Lib.hid (show (decide (1 ≤ B.size ∧ B.size ≤ 4) && decide (1 ≤ i ∧ i ≤ 1000)) = (decide ((1 : Int) ≤ B.size) && decide ((B.size : Int) ≤ 4) && decide (1 ≤ i) && decide (i ≤ 1000)) from by
            rw [Bool.eq_iff_iff]; simp; omega)
          rw [c0, c1, c2, c3] at HQ
          simp only [decide_eq_true_eq, decide_eq_false_iff_not] at c0 c1 c2 c3
          go_wp2_with fail
          go_ret
          exact ⟨by rw [HR.out, HQ.out]; rfl, HI.out⟩
  · rw [hn] at HN
    have HR := Lib.hid (assetV_nat hn)
    clear hn
    go_enter Try.func51, Try.ntmps51
    go_wp2_with fail
    refine (HN.out _).mono ?_
    rintro e w1 ⟨rfl, hb1⟩
    have HB1 := Lib.hid (bstep (balloc (bref w) (.cells #[.string B, .int .i64 i] 43)) hb1)
    clear hb1
    go_wp2_with fail
    go_ret
    exact ⟨by rw [HR.out]; rfl, HB1.out⟩

set_option maxRecDepth 100000 in
set_option maxHeartbeats 4000000 in
theorem rasset_any (B : ByteArray) (i : Int) (w : World) (hsz : B.size ≤ 1000) : Calls Try.prog 52 #[.agg #[.string B, .int .i64 i]] w fun e w' => e = .returned (.bool (assetV B i)) ∧ Below w.heap.size w w' := by
  have HN := Lib.hid (fun W => rnative_any B i W)
  have hget := get_bt B
  cases hn : natV B i
  · rw [hn] at HN
    have HV0 := Lib.hid hn
    clear hn
    by_cases hr : (1 : Int) ≤ (B.size : Int) ∧ (B.size : Int) ≤ 4 ∧ 1 ≤ i ∧ i ≤ 1000
    · obtain ⟨c0, c1, c2, c3⟩ := hr
      have HU := Lib.hid (show upAll B = assetV B i by
        have h1 : (decide (1 ≤ B.size ∧ B.size ≤ 4) && decide (1 ≤ i ∧ i ≤ 1000)) = true := by simp; omega
        cases hu : upAll B
        · exact (assetV_bad HV0.out hu).symm
        · exact ((assetV_end HV0.out hu).trans h1).symm)
      go_enter Try.func52, Try.ntmps52
      go_wp2_with fail
      refine (HN.out _).mono ?_
      rintro e w1 ⟨rfl, hb1⟩
      have HB1 := Lib.hid (bstep (balloc (bref w) (.cells #[.string B, .int .i64 i] 43)) hb1)
      obtain ⟨d0, d1⟩ := (Cs2.new w B i).below hb1
      clear hb1
      go_wp2_with fail
      go_loop [3] (fun t => ∃ q : Nat, q ≤ B.size ∧ t = .int .i64 q ∧ Hid (∀ k, k < q → upN (bt B k) = true)) (fun t => B.size - (intOf t).toNat)
      case atStart => exact ⟨0, by omega, rfl, Lib.hid (fun k hk => by omega)⟩
      case round =>
        obtain ⟨q, hq, rfl, hall⟩ := hrel
        by_cases hlt : q < B.size
        · cases hu : upN (bt B q)
          · have HR := Lib.hid (HU.out.symm.trans (upAll_no hlt hu))
            have ho : bt B q < 65 ∨ (65 ≤ bt B q ∧ 90 < bt B q) := by
              unfold upN at hu
              rw [Bool.and_eq_false_iff] at hu
              rcases hu with h | h
              · left; have := of_decide_eq_false h; omega
              · rcases Int.lt_or_le (bt B q) 65 with h2 | h2
                · exact .inl h2
                · right; have := of_decide_eq_false h; omega
            clear hu
            rcases ho with q0 | ⟨q0, q1⟩
            all_goals
              go_wp2_with fail
              go_ret
              exact ⟨by rw [HR.out]; rfl, HB1.out⟩
          · have hu2 := hu
            unfold upN at hu2
            rw [Bool.and_eq_true, decide_eq_true_eq, decide_eq_true_eq] at hu2
            obtain ⟨hu0, hu1⟩ := hu2
            have HALL := Lib.hid (show ∀ k, k < q + 1 → upN (bt B k) = true from fun k hk => by
              rcases Nat.lt_or_ge k q with h | h
              · exact hall.out k h
              · obtain rfl : k = q := by omega
                exact hu)
            clear hu hall
            go_wp2_with fail
            go_round
            case rel => exact ⟨q + 1, by omega, by go_num, HALL⟩
            case measure => simp [intOf]; omega
        · obtain rfl : q = B.size := by omega
          have HR := Lib.hid (HU.out.symm.trans (upAll_yes hall.out))
          go_wp2_with fail
          go_ret
          exact ⟨by rw [HR.out]; rfl, HB1.out⟩
    · have HR := Lib.hid (show assetV B i = false by
        cases hu : upAll B
        · exact assetV_bad HV0.out hu
        · rw [assetV_end HV0.out hu]
          simp
          omega)
      cases c0 : decide ((B.size : Int) < 1) <;> cases c1 : decide (4 < (B.size : Int)) <;> cases c2 : decide (i < 1) <;> cases c3 : decide (1000 < i)
      all_goals (first | (exfalso; simp only [decide_eq_true_eq, decide_eq_false_iff_not] at c0 c1 c2 c3; omega) | skip)
      all_goals
        simp only [decide_eq_true_eq, decide_eq_false_iff_not] at c0 c1 c2 c3
        clear hr
        go_enter Try.func52, Try.ntmps52
        go_wp2_with fail
        refine (HN.out _).mono ?_
        rintro e w1 ⟨rfl, hb1⟩
        have HB1 := Lib.hid (bstep (balloc (bref w) (.cells #[.string B, .int .i64 i] 43)) hb1)
        obtain ⟨d0, d1⟩ := (Cs2.new w B i).below hb1
        clear hb1
        go_wp2_with fail
        go_ret
        exact ⟨by rw [HR.out]; rfl, HB1.out⟩
  · rw [hn] at HN
    have HR := Lib.hid (assetV_nat hn)
    clear hn
    go_enter Try.func52, Try.ntmps52
    go_wp2_with fail
    refine (HN.out _).mono ?_
    rintro e w1 ⟨rfl, hb1⟩
    have HB1 := Lib.hid (bstep (balloc (bref w) (.cells #[.string B, .int .i64 i] 43)) hb1)
    clear hb1
    go_wp2_with fail
    go_ret
    exact ⟨by rw [HR.out]; rfl, HB1.out⟩
end Go.Proofs.Ytnnajmoedihkjaa
