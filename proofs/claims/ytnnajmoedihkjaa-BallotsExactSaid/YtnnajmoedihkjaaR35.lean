/- Contracts of the reference for amounts: numbers. -/
import Derived.Test.YtnnajmoedihkjaaAmtRed
namespace Go.Proofs.Ytnnajmoedihkjaa
set_option linter.unusedVariables false
set_option linter.unusedSimpArgs false
open Go.RowKit

set_option maxHeartbeats 400000 in
theorem rvalid_any (n : Int) (w : World) :
    Calls Try.prog 36 #[.int .i64 n] w fun e w' => e = .returned (.bool (okI n)) ∧ w = w' := by
  have key : ∀ b : Bool, okI n = b → Calls Try.prog 36 #[.int .i64 n] w fun e w' => e = .returned (.bool b) ∧ w = w' := by
    intro b hb
    by_cases h0 : 0 ≤ n
    · by_cases h1 : n ≤ 1000000000000
      · obtain rfl : true = b := by rw [← hb, okI_yes h0 h1]
        clear hb
        go_enter Try.func36, Try.ntmps36
        go_wp2
        go_ret
        exact ⟨rfl, rfl⟩
      · obtain rfl : false = b := by rw [← hb]; unfold okI; simp [h1]
        clear hb
        go_enter Try.func36, Try.ntmps36
        go_wp2
        go_ret
        exact ⟨rfl, rfl⟩
    · obtain rfl : false = b := by rw [← hb]; unfold okI; simp [h0]
      clear hb
      go_enter Try.func36, Try.ntmps36
      go_wp2
      go_ret
      exact ⟨rfl, rfl⟩
  exact key _ rfl

set_option maxHeartbeats 400000 in
theorem rprice_any (n d : Int) (w : World) :
    Calls Try.prog 38 #[.int .i64 n, .int .i64 d] w fun e w' => e = .returned (.bool (okP n d)) ∧ w = w' := by
  cases hb : okP n d
  · have hn : ¬ (1 ≤ n ∧ n ≤ 1000000 ∧ 1 ≤ d ∧ d ≤ 1000000) := fun h => by rw [okP_yes h.1 h.2.1 h.2.2.1 h.2.2.2] at hb; cases hb
    clear hb
    by_cases h0 : 1 ≤ n <;> by_cases h1 : n ≤ 1000000 <;> by_cases h2 : 1 ≤ d <;> by_cases h3 : d ≤ 1000000
    all_goals (first | (exfalso; omega) | skip)
    all_goals
      clear hn
      go_enter Try.func38, Try.ntmps38
      go_wp2
      go_ret
      exact ⟨rfl, rfl⟩
  · obtain ⟨h0, h1, h2, h3⟩ := okP_of hb
    clear hb
    go_enter Try.func38, Try.ntmps38
    go_wp2
    go_ret
    exact ⟨rfl, rfl⟩

set_option maxHeartbeats 400000 in
theorem rreduce_ok (n d : Nat) (w : World) (h0 : 1 ≤ n) (h1 : n ≤ 1000000) (h2 : 1 ≤ d) (h3 : d ≤ 1000000) :
    Calls Try.prog 42 #[.int .i64 n, .int .i64 d] w fun e w' => e = .returned (.tuple #[.int .i64 ((n / Nat.gcd n d : Nat) : Int), .int .i64 ((d / Nat.gcd n d : Nat) : Int)]) ∧ Below w.heap.size w w' := by
  have hp := okP_yes (n := n) (d := d) (by omega) (by omega) (by omega) (by omega)
  obtain ⟨G, hG⟩ : ∃ G, Nat.gcd n d = G := ⟨_, rfl⟩
  have hG0 : 1 ≤ G := by rw [← hG]; exact Nat.gcd_pos_of_pos_left _ (by omega)
  have hG1 : G ≤ n := by rw [← hG]; exact Nat.gcd_le_left _ (by omega)
  rw [hG]
  have HG := Lib.hid hG
  clear hG
  go_enter Try.func42, Try.ntmps42
  go_wp2_with (go_at_call 38; refine (rprice_any _ _ _).mono ?_; rintro e w2 ⟨rfl, rfl⟩)
  go_loopw [6, 7] (fun u v wr => ∃ x y : Nat, u = .int .i64 x ∧ v = .int .i64 y ∧ 1 ≤ x ∧ x ≤ 1000000 ∧ y ≤ 1000000 ∧ Hid (Nat.gcd x y = G) ∧ Below w.heap.size w wr) (fun _ v _ => (intOf v).toNat)
  case atStart => exact ⟨n, d, rfl, rfl, h0, h1, h3, HG, Below.refl _ _⟩
  case round =>
    obtain ⟨x, y, rfl, rfl, hx0, hx1, hy1, hgcd, hbel⟩ := hrel
    by_cases hy : y = 0
    · subst hy
      obtain rfl : x = G := by have := hgcd.out; simpa using this
      have hx : 1 ≤ (x : Int) := by omega
      have E1 := Lib.hid (wrap64_div n x h1)
      have E2 := Lib.hid (wrap64_div d x h3)
      go_wp2_with fail
      go_quiet (fail)
      go_wp2
      go_ret2
      exact ⟨by rw [← E1.out, ← E2.out]; rfl, below_drewN hbel _⟩
    · have hne : ((y : Int) != 0) = true := by rw [bne_iff_ne]; omega
      go_wp2_with fail
      go_quiet (fail)
      go_roundw
      case rel =>
        have hm := Nat.mod_lt x (show 0 < y by omega)
        have hg2 : Nat.gcd y (x % y) = G := (gcd_step x y).trans hgcd.out
        exact ⟨_, _, _, _, _, _, _, _, ⟨y, x % y, rfl, by rw [← Int.natCast_emod], by omega, hy1, by omega, hg2, below_drewN hbel _⟩, rfl⟩
      case measure =>
        have := Nat.mod_lt x (show 0 < y by omega)
        have e : ((x : Int) % (y : Int)) = ((x % y : Nat) : Int) := by omega
        show (intOf (.int .i64 ((x : Int) % (y : Int)))).toNat < (intOf (.int .i64 (y : Int))).toNat
        rw [e]
        show ((x % y : Nat) : Int).toNat < ((y : Nat) : Int).toNat
        omega

end Go.Proofs.Ytnnajmoedihkjaa
