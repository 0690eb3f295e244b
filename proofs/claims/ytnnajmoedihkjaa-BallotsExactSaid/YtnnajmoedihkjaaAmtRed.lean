/- The contract of amount.Reduce: both numbers divided by their greatest common divisor; and the one of sane: the chapter's example. -/
import Derived.Test.YtnnajmoedihkjaaAmt
namespace Go.Proofs.Ytnnajmoedihkjaa
set_option linter.unusedVariables false
set_option linter.unusedSimpArgs false
open Go.RowKit

theorem wrap64_div (n x : Nat) (h : n ≤ 1000000) : wrap64 ((n : Int) / (x : Int)) = ((n / x : Nat) : Int) := by
  rw [← Int.natCast_ediv]
  have hq := Nat.div_le_self n x
  generalize n / x = q at *
  exact IntWalk.wrap64_in _ (by omega)

theorem gcd_step (x y : Nat) : Nat.gcd y (x % y) = Nat.gcd x y := by
  rw [Nat.gcd_comm x y, Nat.gcd_rec y x, Nat.gcd_comm]

set_option maxHeartbeats 400000 in
theorem reduce_ok (n d : Nat) (w : World) (h0 : 1 ≤ n) (h1 : n ≤ 1000000) (h2 : 1 ≤ d) (h3 : d ≤ 1000000) :
    Calls Try.prog 41 #[.int .i64 n, .int .i64 d] w fun e w' => e = .returned (.tuple #[.int .i64 ((n / Nat.gcd n d : Nat) : Int), .int .i64 ((d / Nat.gcd n d : Nat) : Int)]) ∧ Below w.heap.size w w' := by
  have hp := okP_yes (n := n) (d := d) (by omega) (by omega) (by omega) (by omega)
  obtain ⟨G, hG⟩ : ∃ G, Nat.gcd n d = G := ⟨_, rfl⟩
  have hG0 : 1 ≤ G := by rw [← hG]; exact Nat.gcd_pos_of_pos_left _ (by omega)
  have hG1 : G ≤ n := by rw [← hG]; exact Nat.gcd_le_left _ (by omega)
  rw [hG]
  have HG := Lib.hid hG
  clear hG
  go_enter Try.func41, Try.ntmps41
  go_wp2_with (go_at_call 37; refine (price_any _ _ _).mono ?_; rintro e w2 ⟨rfl, rfl⟩)
  go_loopw [6, 7] (fun u v wr => ∃ x y : Nat, u = .int .i64 x ∧ v = .int .i64 y ∧ 1 ≤ x ∧ x ≤ 1000000 ∧ y ≤ 1000000 ∧ Hid (Nat.gcd x y = G) ∧ Below w.heap.size w wr) (fun _ v _ => (intOf v).toNat)
  case atStart => exact ⟨n, d, rfl, rfl, h0, h1, h3, HG, Below.refl _ _⟩
  case round =>
    obtain ⟨x, y, rfl, rfl, hx0, hx1, hy1, hgcd, hbel⟩ := hrel
    by_cases hy : y = 0
    · subst hy
      obtain rfl : x = G := by have := hgcd.out; simpa using this
      have hx : 1 ≤ (x : Int) := by omega
      have E1 := Lib.hid (wrap64_div n x h1)
      have E2 := Lib.hid (wrap64_div d x h3)
      go_wp2_with fail
      go_quiet (fail)
      go_wp2
      go_ret2
      exact ⟨by rw [← E1.out, ← E2.out]; rfl, below_drewN hbel _⟩
    · have hne : ((y : Int) != 0) = true := by rw [bne_iff_ne]; omega
      go_wp2_with fail
      go_quiet (fail)
      go_roundw
      case rel =>
        have hm := Nat.mod_lt x (show 0 < y by omega)
        have hg2 : Nat.gcd y (x % y) = G := (gcd_step x y).trans hgcd.out
        exact ⟨_, _, _, _, _, _, _, _, ⟨y, x % y, rfl, by rw [← Int.natCast_emod], by omega, hy1, by omega, hg2, below_drewN hbel _⟩, rfl⟩
      case measure =>
        have := Nat.mod_lt x (show 0 < y by omega)
        have e : ((x : Int) % (y : Int)) = ((x % y : Nat) : Int) := by omega
        show (intOf (.int .i64 ((x : Int) % (y : Int)))).toNat < (intOf (.int .i64 (y : Int))).toNat
        rw [e]
        show ((x % y : Nat) : Int).toNat < ((y : Nat) : Int).toNat
        omega

theorem dnQ_lit : dnQ 10 1 3 = 3 := by decide

theorem upQ_lit : upQ 10 1 3 = 4 := by decide

theorem cmp_lit : cmpI (1 * 3) (2 * 2) = -1 := by decide

theorem gcd46 : Nat.gcd 4 6 = 2 := by decide

set_option maxHeartbeats 400000 in
theorem native_zero (w : World) : Calls Try.prog 53 #[.agg #[.string ByteArray.empty, .int .i64 0]] w fun e w' => e = .returned (.bool true) ∧ Below w.heap.size w w' := by
  go_enter Try.func53, Try.ntmps53
  go_wp2
  go_ret
  exact ⟨rfl, (Below.refl _ _).alloc (Nat.le_refl _) _⟩

set_option maxHeartbeats 400000 in
theorem asset_zero (w : World) : Calls Try.prog 51 #[.agg #[.string ByteArray.empty, .int .i64 0]] w fun e w' => e = .returned (.bool true) ∧ Below w.heap.size w w' := by
  go_enter Try.func51, Try.ntmps51
  go_wp2_with (go_at_call 53; refine (native_zero _).mono ?_; rintro e w2 ⟨rfl, hb2⟩)
  go_ret
  exact ⟨rfl, ((Below.refl _ _).alloc (Nat.le_refl _) _).trans (hb2.mono (by simp))⟩

set_option maxHeartbeats 400000 in
theorem sane_ok (w : World) : Calls Try.prog 32 #[] w fun e w' => e = .returned (.bool true) ∧ Below w.heap.size w w' := by
  have D := dnQ_lit
  have U := upQ_lit
  have C := cmp_lit
  go_enter Try.func32, Try.ntmps32
  go_wp2_with (first
    | (go_at_call 45; refine (down_ok 10 1 3 _ (by omega) (by omega) (by omega) (by omega) (by omega) (by omega) (by rw [D]; omega)).mono ?_; rintro e w1 ⟨rfl, hb1⟩; rw [D])
    | (go_at_call 47; refine (up_ok 10 1 3 _ (by omega) (by omega) (by omega) (by omega) (by omega) (by omega) (by rw [U]; omega)).mono ?_; rintro e w2 ⟨rfl, hb2⟩; rw [U])
    | (go_at_call 41; refine (reduce_ok 4 6 _ (by omega) (by omega) (by omega) (by omega)).mono ?_; rintro e w3 ⟨rfl, hb3⟩; rw [gcd46])
    | (go_at_call 43; refine (compare_ok 1 2 2 3 _ (by omega) (by omega) (by omega) (by omega) (by omega) (by omega) (by omega) (by omega)).mono ?_; rintro e w4 ⟨rfl, rfl⟩; rw [C])
    | (go_at_call 51; refine (asset_zero _).mono ?_; rintro e w5 ⟨rfl, hb5⟩)
    | (go_at_call 53; refine (native_zero _).mono ?_; rintro e w6 ⟨rfl, hb6⟩))
  go_ret
  exact ⟨rfl, bstep (bstep (bstep (bstep hb1 hb2) hb3) hb5) hb6⟩

end Go.Proofs.Ytnnajmoedihkjaa
