/- The walk of the law NodesetNext. -/
import Derived.Test.YtbbdmaakphoofaaDoorAwake01
import Derived.Test.YtbbdmaakphoofaaDoorRCmp
import Derived.Test.YtbbdmaakphoofaaDoorOrdSets
namespace Go.Proofs.YtbbdmaakphoofaaDoor
set_option linter.unusedVariables false
set_option linter.unusedSimpArgs false
open Go.RowKit

theorem bgrow (w : World) (os : Array Obj) : Below w.heap.size w (Go.Sort.grow w os) :=
  ⟨rfl, rfl, rfl, by show w.heap.size ≤ (w.heap ++ os).size; rw [Array.size_append]; omega, fun k hk => by show (w.heap ++ os)[k]? = _; rw [Array.getElem?_append, if_pos hk]⟩
theorem next_more {n s : Nat} (h : nextN n s < 2 ^ n) : nextR n s = .returned (.tuple #[.int .i64 ((nextN n s : Nat) : Int), .bool true]) := by
  unfold nextR
  rw [if_neg (by omega), decide_eq_false (by omega)]; rfl
theorem next_last {n s : Nat} (h : 2 ^ n ≤ nextN n s) : nextR n s = .returned (.tuple #[.int .i64 0, .bool false]) := by
  unfold nextR
  rw [if_pos h, decide_eq_true h]; rfl
theorem keyN_eq (s : Nat) : keyN s = keyC s := rfl
set_option maxRecDepth 100000 in
theorem ord_top (n : Nat) (hn : n ≤ 10) (s : Nat) (h : (ordN n)[2 ^ n - 1]? = some s) : s = 2 ^ n - 1 := by
  have all : ∀ n : Fin 11, (match (ordN n.val)[2 ^ n.val - 1]? with | some s => decide (s = 2 ^ n.val - 1) | none => true) = true := by decide +kernel
  have h1 := all ⟨n, by omega⟩
  simp only [h] at h1
  simpa using h1
/-- What one step of the law rests on. -/
theorem next_step {n : Nat} (hn : n ≤ 10) {i s : Nat} (h : (ordN n)[i]? = some s) (hi : i + 1 < 2 ^ n) : ∃ x : Nat, x < 2 ^ n ∧ nextR n s = .returned (.tuple #[.int .i64 (x : Int), .bool true]) ∧ (ordN n)[i + 1]? = some x ∧ cmpN (s : Int) (x : Int) = -1 ∧ cmpR s x = -1 := by
  have hs := ord_lt n hn s (List.mem_of_getElem? h)
  have hst := ord_step n hn i s h
  have h10 : 2 ^ n ≤ 2 ^ 10 := Nat.pow_le_pow_right (by omega) hn
  have hlt : nextN n s < 2 ^ n := by
    rcases Nat.lt_or_ge (nextN n s) (2 ^ n) with h1 | h1
    · exact h1
    · have := hst.2 h1; omega
  have hk : keyC s < keyC (nextN n s) := keyN_next n hn s hs hlt
  exact ⟨nextN n s, hlt, next_more hlt, hst.1 hlt, cmpN_neg _ _ (by omega) (by omega) hk, by unfold cmpR; rw [if_pos hk]⟩

set_option maxRecDepth 100000 in
set_option maxHeartbeats 4000000 in
theorem walkNodesetNext (a0 : Int) (w0 : (Lit.int .u8 a0).wf = true) (w : World) :
    Calls Tryd.prog 4 #[.int .u8 a0] w fun e w' => e = .returned (.bool true) ∧ Below w.heap.size w w' := by
  obtain ⟨x0, x1⟩ := bounds_u8 w0
  clear w0
  obtain ⟨n, hn⟩ : ∃ n : Nat, a0 % 11 = (n : Int) := ⟨(a0 % 11).toNat, by omega⟩
  have hn1 : n ≤ 10 := by omega
  have c1 : IntKind.i64.wrap a0 = a0 := IntWalk.i64_in _ (by omega)
  have hp := pow11 n (by omega)
  have h10 : 2 ^ n ≤ 2 ^ 10 := Nat.pow_le_pow_right (by omega) hn1
  have h1p : 1 ≤ 2 ^ n := Nat.one_le_two_pow
  have HST := Lib.hid (fun i s h hi => next_step (n := n) hn1 (i := i) (s := s) h hi)
  have HO0 := Lib.hid (ord_zero n)
  have HL := Lib.hid (fun s h => (⟨ord_top n hn1 s h, next_last (ord_last n hn1 s h)⟩ : s = 2 ^ n - 1 ∧ _))
  have HNX := Lib.hid (fun s (h : s < 2 ^ n) W => pnext_run s n hn1 h W)
  have HLT := Lib.hid (fun (s : Nat) i (h : (ordN n)[i]? = some s) => ord_lt n hn1 s (List.mem_of_getElem? h))
  have hm1 : wrap64 ((2 ^ n : Nat) - 1 : Int) = ((2 ^ n - 1 : Nat) : Int) := by unfold wrap64; omega
  obtain ⟨N, hN⟩ : ∃ N, 2 ^ n = N := ⟨_, rfl⟩
  rw [hN] at hp h10 h1p hm1
  rw [hN] at HL HNX HLT HST
  clear hN
  have hnn0 : (0 : Int) ≤ (n : Int) := by omega
  have hnn64 : ¬ (64 : Int) ≤ (n : Int) := by omega
  go_enter Tryd.func4, Tryd.ntmps4
  go_wp2_with fail
  go_loopw [4, 6] (fun v t W => ∃ j s : Nat, j + 1 ≤ N ∧ v = .int .i64 (s : Int) ∧ t = .int .i64 (j + 1 : Nat) ∧ Hid ((ordN n)[j]? = some s) ∧ Hid (Below w.heap.size w W)) (fun v t _ => N - (intOf t).toNat)
  case atStart => exact ⟨0, 0, h1p, rfl, rfl, HO0, Lib.hid (bref _)⟩
  case round =>
    obtain ⟨j, s, hj, rfl, rfl, hA, hB⟩ := hrel
    have hsN := HLT.out s j hA.out
    by_cases hlt : j + 1 < N
    · obtain ⟨x, hx, hr, ho, hc1, hc2⟩ := HST.out j s hA.out hlt
      have HR := Lib.hid hr
      have HO := Lib.hid ho
      have HC1 := Lib.hid hc1
      have HC2 := Lib.hid hc2
      have hx0 : ¬ (x : Int) < 0 := by omega
      have hxN : ¬ (N : Int) ≤ (x : Int) := by omega
      clear hr ho hc1 hc2
      go_wp2_with fail
      refine (HNX.out s hsN _).mono ?_
      rintro e W2 ⟨rfl, rfl⟩
      rw [HR.out]
      go_wp2_with fail
      refine (pcompare_run _ _ _).mono ?_
      rintro e W3 ⟨rfl, os, rfl⟩
      rw [HC1.out]
      go_wp2_with fail
      refine (rcompare_run s x (by omega) (by omega) _).mono ?_
      rintro e W4 ⟨rfl, rfl⟩
      rw [HC2.out]
      go_wp2_with fail
      go_roundw
      case rel => exact ⟨j + 1, x, hlt, rfl, by go_num, HO, Lib.hid (bstep hB.out (bgrow _ _))⟩
      case measure => simp [intOf]; omega
    · have hjN : j = N - 1 := by omega
      subst hjN
      obtain ⟨hl1, hl2⟩ := HL.out s hA.out
      have HR := Lib.hid hl2
      have hNN : ((N - 1 + 1 : Nat) : Int) = (N : Int) := by omega
      have hm2 : wrap64 ((N : Int) - 1) = (s : Int) := by rw [hm1, hl1]
      have hss : ((s : Int) == (s : Int)) = true := by simp
      rw [hNN]
      clear hNN hl2 hl1 hlt hm1 h10 h1p hj x0 x1 hn hA
      go_wp2_with fail
      refine (HNX.out s hsN _).mono ?_
      rintro e W2 ⟨rfl, rfl⟩
      rw [HR.out]
      go_wp2_with fail
      refine (awake01 _).mono ?_
      rintro e W3 ⟨rfl, hb3⟩
      go_wp2_with fail
      go_ret
      exact ⟨rfl, bstep hB.out hb3⟩
end Go.Proofs.YtbbdmaakphoofaaDoor
