/- The contract of nodeset.Next. -/
import Derived.Test.YtfghnkgllmofgaaSet
namespace Go.Proofs.Ytfghnkgllmofgaa
set_option linter.unusedVariables false
set_option linter.unusedSimpArgs false
open Go.RowKit

/-- How many of the ten bits of a set are on. -/
def popc (s : Nat) : Nat := (List.range 10).countP (fun k => s.testBit k)

def o1 (x : Int) : Int := IntKind.u64.wrap (bits .and .u64 (x / 2) 6148914691236517205 + bits .and .u64 x 6148914691236517205)

def o2 (x : Int) : Int := IntKind.u64.wrap (bits .and .u64 (x / 4) 3689348814741910323 + bits .and .u64 x 3689348814741910323)

def o3 (x : Int) : Int := bits .and .u64 (IntKind.u64.wrap (x / 16 + x)) 1085102592571150095

def o4 (x : Int) : Int := IntKind.u64.wrap (x + x / 256)

def o5 (x : Int) : Int := IntKind.u64.wrap (x + x / 65536)

def o6 (x : Int) : Int := IntKind.u64.wrap (x + x / 4294967296)

def o7 (x : Int) : Int := bits .and .i64 (wrap64 x) 127

set_option maxRecDepth 100000 in
theorem ones_fact (s : Nat) (hs : s < 1024) : o7 (o6 (o5 (o4 (o3 (o2 (o1 (s : Int))))))) = ((popc s : Nat) : Int) := by
  have all : ∀ s : Fin 1024, o7 (o6 (o5 (o4 (o3 (o2 (o1 (s.val : Int))))))) = ((popc s.val : Nat) : Int) := by decide +kernel
  exact all ⟨s, hs⟩

set_option maxHeartbeats 1000000 in
theorem ones64_run (s : Nat) (hs : s < 1024) (w : World) : Calls Try.prog 88 #[.int .u64 (s : Int)] w fun e w' => e = .returned (.int .i64 (popc s : Nat)) ∧ w = w' := by
  have HF := Lib.hid (ones_fact s hs)
  go_enter Try.func88, Try.ntmps88
  go_wp2_with fail
  go_ret
  exact ⟨congrArg (fun z => Ending.returned (Value.int .i64 z)) HF.out, rfl⟩

theorem ones_run (s : Nat) (hs : s < 1024) (w : World) : Calls Try.prog 78 #[.int .u64 (s : Int)] w fun e w' => e = .returned (.int .i64 (popc s : Nat)) ∧ w = w' := by
  go_enter Try.func78, Try.ntmps78
  go_wp2_with fail
  refine (ones64_run s hs _).mono ?_
  rintro e w2 ⟨rfl, rfl⟩
  go_wp2_with fail
  go_ret
  exact ⟨rfl, rfl⟩

theorem psize_run (s : Nat) (hs : s < 1024) (w : World) : Calls Try.prog 70 #[.int .i64 (s : Int)] w fun e w' => e = .returned (.int .i64 (popc s : Nat)) ∧ w = w' := by
  have hsv := Lib.hid (show setB (s : Int) = true from setB_iff.2 ⟨by omega, by omega⟩)
  go_enter Try.func70, Try.ntmps70
  go_wp2_with fail
  refine (setValid_run _ _).mono ?_
  rintro e w2 ⟨rfl, rfl⟩
  rw [hsv.out]
  have hw : IntKind.u64.wrap (s : Int) = (s : Int) := by rw [IntKind.wrap_u64]; omega
  go_wp2_with fail
  refine (ones_run s hs _).mono ?_
  rintro e w2 ⟨rfl, rfl⟩
  go_wp2_with fail
  go_ret
  exact ⟨rfl, rfl⟩

/-- The next greater number with as many bits. -/
def nxtS (s : Nat) : Nat := (bits .or .i64 (wrap64 ((s : Int) + bits .and .i64 (s : Int) (-(s : Int)))) (wrap64 ((bits .xor .i64 (s : Int) (wrap64 ((s : Int) + bits .and .i64 (s : Int) (-(s : Int))))).tdiv (bits .and .i64 (s : Int) (-(s : Int)))) / 4)).toNat

theorem nxt_fact (s : Nat) (hs : s < 1024) (h0 : 0 < s) : ¬ bits .and .i64 (s : Int) (-(s : Int)) = 0 ∧ (bits .or .i64 (wrap64 ((s : Int) + bits .and .i64 (s : Int) (-(s : Int)))) (wrap64 ((bits .xor .i64 (s : Int) (wrap64 ((s : Int) + bits .and .i64 (s : Int) (-(s : Int))))).tdiv (bits .and .i64 (s : Int) (-(s : Int)))) / 4)) = ((nxtS s : Nat) : Int) ∧ nxtS s < 4096 := by
  have all : ∀ s : Fin 1024, 0 < s.val → ¬ bits .and .i64 (s.val : Int) (-(s.val : Int)) = 0 ∧ (bits .or .i64 (wrap64 ((s.val : Int) + bits .and .i64 (s.val : Int) (-(s.val : Int)))) (wrap64 ((bits .xor .i64 (s.val : Int) (wrap64 ((s.val : Int) + bits .and .i64 (s.val : Int) (-(s.val : Int))))).tdiv (bits .and .i64 (s.val : Int) (-(s.val : Int)))) / 4)) = ((nxtS s.val : Nat) : Int) ∧ nxtS s.val < 4096 := by decide +kernel
  exact all ⟨s, hs⟩ h0

set_option maxHeartbeats 1000000 in
theorem nextOf_run (s : Nat) (hs : s < 1024) (w : World) : Calls Try.prog 69 #[.int .i64 (s : Int)] w fun e w' => e = .returned (.int .i64 (if s = 0 then 0 else nxtS s : Nat)) ∧ w = w' := by
  by_cases h0 : s = 0
  · subst h0
    go_enter Try.func69, Try.ntmps69
    go_wp2_with fail
    go_ret
    exact ⟨rfl, rfl⟩
  · rw [if_neg h0]
    have hz : ((s : Int) == 0) = false := by rw [beq_eq_false_iff_ne]; omega
    obtain ⟨hl0, hx, _⟩ := nxt_fact s hs (by omega)
    have HX := Lib.hid hx
    clear hx
    go_enter Try.func69, Try.ntmps69
    go_wp2_with fail
    go_ret
    exact ⟨congrArg (fun z => Ending.returned (Value.int .i64 z)) HX.out, rfl⟩

theorem pow11 (L : Nat) (hL : L ≤ 11) : wrap64 (2 ^ L) = ((2 ^ L : Nat) : Int) := by
  have all : ∀ L : Fin 12, wrap64 (2 ^ L.val) = ((2 ^ L.val : Nat) : Int) := by decide +kernel
  exact all ⟨L, by omega⟩

theorem popc_le (s : Nat) : popc s ≤ 10 := by unfold popc; exact Nat.le_trans List.countP_le_length (by simp)

/-- The set behind s among those of n nodes; 2^n or more: there is none. -/
def nextN (n s : Nat) : Nat := if s = 0 ∨ 2 ^ n ≤ nxtS s then 2 ^ (popc s + 1) - 1 else nxtS s

def nextR (n s : Nat) : Ending := .returned (.tuple #[.int .i64 ((if 2 ^ n ≤ nextN n s then 0 else nextN n s : Nat) : Int), .bool (!decide (2 ^ n ≤ nextN n s))])

set_option maxHeartbeats 2000000 in
theorem pnext_run (s n : Nat) (hn : n ≤ 10) (hs : s < 2 ^ n) (w : World) : Calls Try.prog 53 #[.int .i64 (s : Int), .int .i64 (n : Int)] w fun e w' => e = nextR n s ∧ w = w' := by
  have hp := pow11 n (by omega)
  have h10 : 2 ^ n ≤ 2 ^ 10 := Nat.pow_le_pow_right (by omega) hn
  have hpc := popc_le s
  have hp1 := pow11 (popc s + 1) (by omega)
  have h11 : 2 ^ (popc s + 1) ≤ 2 ^ 11 := Nat.pow_le_pow_right (by omega) (by omega)
  have h1p : 1 ≤ 2 ^ (popc s + 1) := Nat.one_le_pow _ _ (by omega)
  have hs10 : s < 1024 := by omega
  have hnx : 0 < s → nxtS s < 4096 := fun h => (nxt_fact s hs10 h).2.2
  have HD := Lib.hid (show nextR n s = .returned (.tuple #[.int .i64 ((if 2 ^ n ≤ nextN n s then 0 else nextN n s : Nat) : Int), .bool (!decide (2 ^ n ≤ nextN n s))]) from rfl)
  have HN := Lib.hid (show nextN n s = if s = 0 ∨ 2 ^ n ≤ nxtS s then 2 ^ (popc s + 1) - 1 else nxtS s from rfl)
  obtain ⟨N, hN⟩ : ∃ N, 2 ^ n = N := ⟨_, rfl⟩
  obtain ⟨q, hq⟩ : ∃ q, nextN n s = q := ⟨_, rfl⟩
  obtain ⟨Q, hQ⟩ : ∃ Q, 2 ^ (popc s + 1) = Q := ⟨_, rfl⟩
  obtain ⟨pc, hpq⟩ : ∃ pc, popc s = pc := ⟨_, rfl⟩
  have HPC := Lib.hid hpq
  obtain ⟨nx, hnq⟩ : ∃ nx, nxtS s = nx := ⟨_, rfl⟩
  have HNX := Lib.hid hnq
  rw [hN] at hp h10 hs HD HN
  rw [hq] at HD HN
  rw [hQ] at hp1 h11 h1p HN
  rw [hpq] at hp1 hpc
  rw [hnq] at HN hnx
  clear hN hq hQ hpq hnq
  have hwp : wrap64 ((pc : Int) + 1) = ((pc + 1 : Nat) : Int) := by unfold wrap64; omega
  have hn0 : (0 : Int) ≤ (n : Int) := by omega
  have hn10 : (n : Int) ≤ 10 := by omega
  have hsN : (s : Int) < (N : Int) := by omega
  have hs0 : (0 : Int) ≤ (s : Int) := by omega
  have hn64 : ¬ (64 : Int) ≤ (n : Int) := by omega
  have hQ1 : wrap64 ((Q : Int) - 1) = (Q : Int) - 1 := by unfold wrap64; omega
  go_enter Try.func53, Try.ntmps53
  go_wp2_with fail
  refine (nextOf_run s hs10 _).mono ?_
  rintro e w2 ⟨rfl, rfl⟩
  by_cases h0 : s = 0
  · subst h0
    rw [if_pos rfl]
    rw [if_pos (.inl rfl)] at HN
    go_wp2_with fail
    refine (psize_run 0 (by omega) _).mono ?_
    rintro e w2 ⟨rfl, rfl⟩
    rw [HPC.out]
    rcases Nat.lt_or_ge (Q - 1) N with hqn | hqn
    · have hx1 : ¬ (N : Int) ≤ (Q : Int) - 1 := by omega
      have HE := Lib.hid (show nextR n 0 = .returned (.tuple #[.int .i64 ((Q : Int) - 1), .bool true]) by
        rw [HD.out, HN.out, if_neg (show ¬ N ≤ Q - 1 by omega), decide_eq_false (show ¬ N ≤ Q - 1 by omega), Int.natCast_sub h1p]; rfl)
      go_wp2_with fail
      go_ret2
      exact ⟨HE.out.symm, rfl⟩
    · have hx1 : (N : Int) ≤ (Q : Int) - 1 := by omega
      have HE := Lib.hid (show nextR n 0 = .returned (.tuple #[.int .i64 0, .bool false]) by
        rw [HD.out, HN.out, if_pos (show N ≤ Q - 1 by omega), decide_eq_true (show N ≤ Q - 1 by omega)]; rfl)
      go_wp2_with fail
      go_ret2
      exact ⟨HE.out.symm, rfl⟩
  · rw [if_neg h0, HNX.out]
    have hz : ((s : Int) == 0) = false := by rw [beq_eq_false_iff_ne]; omega
    rcases Nat.lt_or_ge nx N with hnN | hnN
    · have hx0 : ¬ (N : Int) ≤ (nx : Int) := by omega
      rw [if_neg (by rintro (h | h) <;> omega)] at HN
      have HE := Lib.hid (show nextR n s = .returned (.tuple #[.int .i64 (nx : Int), .bool true]) by
        rw [HD.out, HN.out, if_neg (show ¬ N ≤ nx by omega), decide_eq_false (show ¬ N ≤ nx by omega)]; rfl)
      go_wp2_with fail
      go_ret2
      exact ⟨HE.out.symm, rfl⟩
    · have hx0 : (N : Int) ≤ (nx : Int) := by omega
      rw [if_pos (.inr hnN)] at HN
      go_wp2_with fail
      refine (psize_run s (by omega) _).mono ?_
      rintro e w2 ⟨rfl, rfl⟩
      rw [HPC.out]
      rcases Nat.lt_or_ge (Q - 1) N with hqn | hqn
      · have hx1 : ¬ (N : Int) ≤ (Q : Int) - 1 := by omega
        have HE := Lib.hid (show nextR n s = .returned (.tuple #[.int .i64 ((Q : Int) - 1), .bool true]) by
          rw [HD.out, HN.out, if_neg (show ¬ N ≤ Q - 1 by omega), decide_eq_false (show ¬ N ≤ Q - 1 by omega), Int.natCast_sub h1p]; rfl)
        go_wp2_with fail
        go_ret2
        exact ⟨HE.out.symm, rfl⟩
      · have hx1 : (N : Int) ≤ (Q : Int) - 1 := by omega
        have HE := Lib.hid (show nextR n s = .returned (.tuple #[.int .i64 0, .bool false]) by
          rw [HD.out, HN.out, if_pos (show N ≤ Q - 1 by omega), decide_eq_true (show N ≤ Q - 1 by omega)]; rfl)
        go_wp2_with fail
        go_ret2
        exact ⟨HE.out.symm, rfl⟩

end Go.Proofs.Ytfghnkgllmofgaa
