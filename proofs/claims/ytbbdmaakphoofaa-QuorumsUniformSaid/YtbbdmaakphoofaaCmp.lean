/- The contract of nodeset.Compare, for all ints, and that it is a total order. -/
import Derived.Test.YtbbdmaakphoofaaNext
import Derived.Sort.Grow
namespace Go.Proofs.Ytbbdmaakphoofaa
set_option linter.unusedVariables false
set_option linter.unusedSimpArgs false
open Go.RowKit

def orI (x y : Int) : Int := if x = 0 then y else x
def cmpI (a b : Int) : Int := if a < b then -1 else if b < a then 1 else 0
set_option maxHeartbeats 400000 in
theorem cmp_any (a b : Int) (w : World) :
    Calls Try.prog 125 #[.int .i64 a, .int .i64 b] w fun e w' => e = .returned (.int .i64 (cmpI a b)) ∧ w = w' := by
  rcases Int.lt_trichotomy a b with h | h | h
  · have hv : cmpI a b = -1 := by unfold cmpI; rw [if_pos h]
    have HV := Lib.hid hv
    clear hv
    go_enter Try.func125, Try.ntmps125
    go_wp2
    go_ret
    exact ⟨by rw [HV.out]; rfl, rfl⟩
  · subst h
    have hv : cmpI a a = 0 := by unfold cmpI; simp
    have HV := Lib.hid hv
    clear hv
    go_enter Try.func125, Try.ntmps125
    go_wp2
    go_ret
    exact ⟨by rw [HV.out]; rfl, rfl⟩
  · have hv : cmpI a b = 1 := by unfold cmpI; rw [if_neg (by omega), if_pos h]
    have HV := Lib.hid hv
    have hn : ¬ a < b := by omega
    clear hv
    go_enter Try.func125, Try.ntmps125
    go_wp2
    go_ret
    exact ⟨by rw [HV.out]; rfl, rfl⟩

set_option maxHeartbeats 1000000 in
theorem or_run (x y : Int) (g : Nat) (w : World) (h0 : w.cell? ⟨g, 0, none⟩ = some (.int .i64 x)) (h1 : w.cell? ⟨g, 1, none⟩ = some (.int .i64 y)) :
    Calls Try.prog 126 #[.slice (some ⟨g, 0, none⟩) 2 2] w fun e w' => e = .returned (.int .i64 (orI x y)) ∧ w = w' := by
  have key : ∀ r, orI x y = r → (x = 0 → y = 0 ∨ y ≠ 0) := fun _ _ _ => by omega
  by_cases hx : x = 0
  · have hx0 : (x == 0) = true := by simp [hx]
    have hx1 : (x != 0) = false := by simp [hx]
    by_cases hy : y = 0
    · have hy0 : (y != 0) = false := by simp [hy]
      have HO := Lib.hid (show orI x y = 0 by unfold orI; simp [hx, hy])
      clear key hx hy
      go_enter Try.func126, Try.ntmps126
      go_wp2_with fail
      go_loop [8] (fun t => ∃ q : Nat, q ≤ 2 ∧ t = .int .i64 q) (fun t => 2 - (intOf t).toNat)
      case atStart => exact ⟨0, by omega, rfl⟩
      case round =>
        obtain ⟨q, hq, rfl⟩ := hrel
        match q, hq with
        | 0, _ =>
          go_wp2_with fail
          go_round
          case rel => exact ⟨1, by omega, rfl⟩
          case measure => simp [intOf]
        | 1, _ =>
          go_wp2_with fail
          go_round
          case rel => exact ⟨2, by omega, rfl⟩
          case measure => simp [intOf]
        | 2, _ =>
          go_wp2_with fail
          go_ret
          exact ⟨by rw [HO.out]; rfl, rfl⟩
    · have hy0 : (y != 0) = true := by simp [hy]
      have HO := Lib.hid (show orI x y = y by unfold orI; simp [hx])
      clear key hx hy
      go_enter Try.func126, Try.ntmps126
      go_wp2_with fail
      go_loop [8] (fun t => ∃ q : Nat, q ≤ 1 ∧ t = .int .i64 q) (fun t => 2 - (intOf t).toNat)
      case atStart => exact ⟨0, by omega, rfl⟩
      case round =>
        obtain ⟨q, hq, rfl⟩ := hrel
        match q, hq with
        | 0, _ =>
          go_wp2_with fail
          go_round
          case rel => exact ⟨1, by omega, rfl⟩
          case measure => simp [intOf]
        | 1, _ =>
          go_wp2_with fail
          go_ret
          exact ⟨by rw [HO.out]; rfl, rfl⟩
  · have hx1 : (x != 0) = true := by simp [hx]
    have HO := Lib.hid (show orI x y = x by unfold orI; simp [hx])
    clear key hx
    go_enter Try.func126, Try.ntmps126
    go_wp2_with fail
    go_loop [8] (fun t => t = .int .i64 0) (fun t => 0)
    case atStart => rfl
    case round =>
      obtain rfl := hrel
      go_wp2_with fail
      go_ret
      exact ⟨by rw [HO.out]; rfl, rfl⟩

/-- The place of a set in the order of sets. -/
def keyC (s : Nat) : Nat := popc s * 1024 + s
/-- What nodeset.Compare answers. -/
def cmpN (a b : Int) : Int := if setB a = setB b then (if setB a = true then orI (cmpI (popc a.toNat : Nat) (popc b.toNat : Nat)) (cmpI a b) else cmpI a b) else if setB b = true then -1 else 1

set_option maxHeartbeats 2000000 in
theorem pcompare_run (a b : Int) (w : World) :
    Calls Try.prog 118 #[.int .i64 a, .int .i64 b] w fun e w' => e = .returned (.int .i64 (cmpN a b)) ∧ ∃ os, w' = Go.Sort.grow w os := by
  cases ha : setB a <;> cases hb : setB b
  · have HV := Lib.hid (show cmpN a b = cmpI a b by unfold cmpN; rw [ha, hb]; simp)
    go_enter Try.func118, Try.ntmps118
    go_wp2_with (first | (go_at_call 47; refine (setValid_run _ _).mono ?_; rintro e w2 ⟨rfl, rfl⟩) | (go_at_call 125; refine (cmp_any _ _ _).mono ?_; rintro e w2 ⟨rfl, rfl⟩))
    go_ret
    exact ⟨by rw [HV.out]; rfl, #[], by rw [Go.Sort.grow_empty]⟩
  · have HV := Lib.hid (show cmpN a b = -1 by unfold cmpN; rw [ha, hb]; simp)
    go_enter Try.func118, Try.ntmps118
    go_wp2_with (first | (go_at_call 47; refine (setValid_run _ _).mono ?_; rintro e w2 ⟨rfl, rfl⟩))
    go_ret
    exact ⟨by rw [HV.out]; rfl, #[], by rw [Go.Sort.grow_empty]⟩
  · have HV := Lib.hid (show cmpN a b = 1 by unfold cmpN; rw [ha, hb]; simp)
    go_enter Try.func118, Try.ntmps118
    go_wp2_with (first | (go_at_call 47; refine (setValid_run _ _).mono ?_; rintro e w2 ⟨rfl, rfl⟩))
    go_ret
    exact ⟨by rw [HV.out]; rfl, #[], by rw [Go.Sort.grow_empty]⟩
  · obtain ⟨a0, a1⟩ := setB_iff.1 ha
    obtain ⟨b0, b1⟩ := setB_iff.1 hb
    obtain ⟨s, rfl⟩ := Int.eq_ofNat_of_zero_le a0
    obtain ⟨t, rfl⟩ := Int.eq_ofNat_of_zero_le b0
    have HV := Lib.hid (show cmpN s t = orI (cmpI (popc s : Nat) (popc t : Nat)) (cmpI s t) by unfold cmpN; rw [ha, hb]; simp)
    go_enter Try.func118, Try.ntmps118
    go_wp2_with fail
    refine (setValid_run _ _).mono ?_
    rintro e w2 ⟨rfl, rfl⟩
    rw [ha]
    go_wp2_with fail
    refine (setValid_run _ _).mono ?_
    rintro e w2 ⟨rfl, rfl⟩
    rw [hb]
    go_wp2_with fail
    refine (setValid_run _ _).mono ?_
    rintro e w2 ⟨rfl, rfl⟩
    rw [ha]
    go_wp2_with fail
    refine (psize_run s (by omega) _).mono ?_
    rintro e w2 ⟨rfl, rfl⟩
    go_wp2_with fail
    refine (psize_run t (by omega) _).mono ?_
    rintro e w2 ⟨rfl, rfl⟩
    generalize popc s = ps at *
    generalize popc t = pt at *
    go_wp2_with fail
    refine (cmp_any _ _ _).mono ?_
    rintro e w2 ⟨rfl, rfl⟩
    generalize cmpI ps pt = u at *
    go_wp2_with fail
    refine (cmp_any _ _ _).mono ?_
    rintro e w2 ⟨rfl, rfl⟩
    generalize cmpI s t = v at *
    go_wp2_with fail
    refine (or_run u v _ _ (cell_of_row _ _ 0 _ _ (0, 0) (heap_alloc_new _ _)) (cell_of_row _ _ 1 _ _ (0, 0) (heap_alloc_new _ _))).mono ?_
    rintro e w2 ⟨rfl, rfl⟩
    go_wp2_with fail
    go_ret
    exact ⟨by rw [HV.out]; rfl, #[.cells #[.int .i64 u, .int .i64 v] 3], Go.Sort.alloc_eq_grow _ _⟩

/-- The three keys of the order of sets. -/
def rkA (a : Int) : Int := if setB a = true then 1 else 0
def rkB (a : Int) : Int := if setB a = true then (popc a.toNat : Nat) else 0
theorem orI_lt (x y : Int) : (orI x y < 0) ↔ (x < 0 ∨ (x = 0 ∧ y < 0)) := by unfold orI; split <;> omega
theorem cmpI_lt (x y : Int) : (cmpI x y < 0) ↔ x < y := by unfold cmpI; split <;> (try split) <;> omega
theorem cmpI_eq (x y : Int) : (cmpI x y = 0) ↔ x = y := by unfold cmpI; split <;> (try split) <;> omega
theorem cmpN_lt (x y : Int) : (cmpN x y < 0) ↔ (rkA x < rkA y ∨ (rkA x = rkA y ∧ (rkB x < rkB y ∨ (rkB x = rkB y ∧ x < y)))) := by
  unfold cmpN rkA rkB
  cases setB x <;> cases setB y <;> simp [orI_lt, cmpI_lt, cmpI_eq]
theorem cmpN_cast (s t : Nat) (hs : s < 1024) (ht : t < 1024) : (cmpN s t < 0) ↔ keyC s < keyC t := by
  have h1 : setB (s : Int) = true := setB_iff.2 ⟨by omega, by omega⟩
  have h2 : setB (t : Int) = true := setB_iff.2 ⟨by omega, by omega⟩
  rw [cmpN_lt]
  unfold rkA rkB keyC
  rw [if_pos h1, if_pos h2, if_pos h1, if_pos h2]
  simp only [Int.toNat_natCast, Int.lt_irrefl, false_or, true_and, Int.ofNat_lt, Int.natCast_inj]
  omega
end Go.Proofs.Ytbbdmaakphoofaa
