/- The table of nodeset.Least, and its two closures. -/
import Derived.Test.YtfchdkgdbdnoiaaDoorDual2
import Derived.Test.YtfchdkgdbdnoiaaDoorNext
import Derived.Sort.Grow
import Derived.Deep.WholeRow
namespace Go.Proofs.YtfchdkgdbdnoiaaDoor
set_option linter.unusedVariables false
set_option linter.unusedSimpArgs false
open Go.RowKit

def orI (x y : Int) : Int := if x = 0 then y else x

def cmpI (a b : Int) : Int := if a < b then -1 else if b < a then 1 else 0

set_option maxHeartbeats 400000 in
theorem cmp_any (a b : Int) (w : World) :
    Calls Tryd.prog 48 #[.int .i64 a, .int .i64 b] w fun e w' => e = .returned (.int .i64 (cmpI a b)) ∧ w = w' := by
  rcases Int.lt_trichotomy a b with h | h | h
  · have hv : cmpI a b = -1 := by unfold cmpI; rw [if_pos h]
    have HV := Lib.hid hv
    clear hv
    go_enter Tryd.func48, Tryd.ntmps48
    go_wp2
    go_ret
    exact ⟨by rw [HV.out]; rfl, rfl⟩
  · subst h
    have hv : cmpI a a = 0 := by unfold cmpI; simp
    have HV := Lib.hid hv
    clear hv
    go_enter Tryd.func48, Tryd.ntmps48
    go_wp2
    go_ret
    exact ⟨by rw [HV.out]; rfl, rfl⟩
  · have hv : cmpI a b = 1 := by unfold cmpI; rw [if_neg (by omega), if_pos h]
    have HV := Lib.hid hv
    have hn : ¬ a < b := by omega
    clear hv
    go_enter Tryd.func48, Tryd.ntmps48
    go_wp2
    go_ret
    exact ⟨by rw [HV.out]; rfl, rfl⟩

set_option maxHeartbeats 1000000 in
theorem or_run (x y : Int) (g : Nat) (w : World) (h0 : w.cell? ⟨g, 0, none⟩ = some (.int .i64 x)) (h1 : w.cell? ⟨g, 1, none⟩ = some (.int .i64 y)) :
    Calls Tryd.prog 49 #[.slice (some ⟨g, 0, none⟩) 2 2] w fun e w' => e = .returned (.int .i64 (orI x y)) ∧ w = w' := by
  have key : ∀ r, orI x y = r → (x = 0 → y = 0 ∨ y ≠ 0) := fun _ _ _ => by omega
  by_cases hx : x = 0
  · have hx0 : (x == 0) = true := by simp [hx]
    have hx1 : (x != 0) = false := by simp [hx]
    by_cases hy : y = 0
    · have hy0 : (y != 0) = false := by simp [hy]
      have HO := Lib.hid (show orI x y = 0 by unfold orI; simp [hx, hy])
      clear key hx hy
      go_enter Tryd.func49, Tryd.ntmps49
      go_wp2_with fail
      go_loop [8] (fun t => ∃ q : Nat, q ≤ 2 ∧ t = .int .i64 q) (fun t => 2 - (intOf t).toNat)
      case atStart => exact ⟨0, by omega, rfl⟩
      case round =>
        obtain ⟨q, hq, rfl⟩ := hrel
        match q, hq with
        | 0, _ =>
          go_wp2_with fail
          go_round
          case rel => exact ⟨1, by omega, rfl⟩
          case measure => simp [intOf]
        | 1, _ =>
          go_wp2_with fail
          go_round
          case rel => exact ⟨2, by omega, rfl⟩
          case measure => simp [intOf]
        | 2, _ =>
          go_wp2_with fail
          go_ret
          exact ⟨by rw [HO.out]; rfl, rfl⟩
    · have hy0 : (y != 0) = true := by simp [hy]
      have HO := Lib.hid (show orI x y = y by unfold orI; simp [hx])
      clear key hx hy
      go_enter Tryd.func49, Tryd.ntmps49
      go_wp2_with fail
      go_loop [8] (fun t => ∃ q : Nat, q ≤ 1 ∧ t = .int .i64 q) (fun t => 2 - (intOf t).toNat)
      case atStart => exact ⟨0, by omega, rfl⟩
      case round =>
        obtain ⟨q, hq, rfl⟩ := hrel
        match q, hq with
        | 0, _ =>
          go_wp2_with fail
          go_round
          case rel => exact ⟨1, by omega, rfl⟩
          case measure => simp [intOf]
        | 1, _ =>
          go_wp2_with fail
          go_ret
          exact ⟨by rw [HO.out]; rfl, rfl⟩
  · have hx1 : (x != 0) = true := by simp [hx]
    have HO := Lib.hid (show orI x y = x by unfold orI; simp [hx])
    clear key hx
    go_enter Tryd.func49, Tryd.ntmps49
    go_wp2_with fail
    go_loop [8] (fun t => t = .int .i64 0) (fun t => 0)
    case atStart => rfl
    case round =>
      obtain rfl := hrel
      go_wp2_with fail
      go_ret
      exact ⟨by rw [HO.out]; rfl, rfl⟩

/-- The place of a set in the order of sets. -/
def keyC (s : Nat) : Nat := popc s * 1024 + s

/-- What nodeset.Compare answers. -/
def cmpN (a b : Int) : Int := if setB a = setB b then (if setB a = true then orI (cmpI (popc a.toNat : Nat) (popc b.toNat : Nat)) (cmpI a b) else cmpI a b) else if setB b = true then -1 else 1

set_option maxHeartbeats 2000000 in
theorem pcompare_run (a b : Int) (w : World) :
    Calls Tryd.prog 35 #[.int .i64 a, .int .i64 b] w fun e w' => e = .returned (.int .i64 (cmpN a b)) ∧ ∃ os, w' = Go.Sort.grow w os := by
  cases ha : setB a <;> cases hb : setB b
  · have HV := Lib.hid (show cmpN a b = cmpI a b by unfold cmpN; rw [ha, hb]; simp)
    go_enter Tryd.func35, Tryd.ntmps35
    go_wp2_with (first | (go_at_call 9; refine (setValid_run _ _).mono ?_; rintro e w2 ⟨rfl, rfl⟩) | (go_at_call 48; refine (cmp_any _ _ _).mono ?_; rintro e w2 ⟨rfl, rfl⟩))
    go_ret
    exact ⟨by rw [HV.out]; rfl, #[], by rw [Go.Sort.grow_empty]⟩
  · have HV := Lib.hid (show cmpN a b = -1 by unfold cmpN; rw [ha, hb]; simp)
    go_enter Tryd.func35, Tryd.ntmps35
    go_wp2_with (first | (go_at_call 9; refine (setValid_run _ _).mono ?_; rintro e w2 ⟨rfl, rfl⟩))
    go_ret
    exact ⟨by rw [HV.out]; rfl, #[], by rw [Go.Sort.grow_empty]⟩
  · have HV := Lib.hid (show cmpN a b = 1 by unfold cmpN; rw [ha, hb]; simp)
    go_enter Tryd.func35, Tryd.ntmps35
    go_wp2_with (first | (go_at_call 9; refine (setValid_run _ _).mono ?_; rintro e w2 ⟨rfl, rfl⟩))
    go_ret
    exact ⟨by rw [HV.out]; rfl, #[], by rw [Go.Sort.grow_empty]⟩
  · obtain ⟨a0, a1⟩ := setB_iff.1 ha
    obtain ⟨b0, b1⟩ := setB_iff.1 hb
    obtain ⟨s, rfl⟩ := Int.eq_ofNat_of_zero_le a0
    obtain ⟨t, rfl⟩ := Int.eq_ofNat_of_zero_le b0
    have HV := Lib.hid (show cmpN s t = orI (cmpI (popc s : Nat) (popc t : Nat)) (cmpI s t) by unfold cmpN; rw [ha, hb]; simp)
    go_enter Tryd.func35, Tryd.ntmps35
    go_wp2_with fail
    refine (setValid_run _ _).mono ?_
    rintro e w2 ⟨rfl, rfl⟩
    rw [ha]
    go_wp2_with fail
    refine (setValid_run _ _).mono ?_
    rintro e w2 ⟨rfl, rfl⟩
    rw [hb]
    go_wp2_with fail
    refine (setValid_run _ _).mono ?_
    rintro e w2 ⟨rfl, rfl⟩
    rw [ha]
    go_wp2_with fail
    refine (psize_run s (by omega) _).mono ?_
    rintro e w2 ⟨rfl, rfl⟩
    go_wp2_with fail
    refine (psize_run t (by omega) _).mono ?_
    rintro e w2 ⟨rfl, rfl⟩
    generalize popc s = ps at *
    generalize popc t = pt at *
    go_wp2_with fail
    refine (cmp_any _ _ _).mono ?_
    rintro e w2 ⟨rfl, rfl⟩
    generalize cmpI ps pt = u at *
    go_wp2_with fail
    refine (cmp_any _ _ _).mono ?_
    rintro e w2 ⟨rfl, rfl⟩
    generalize cmpI s t = v at *
    go_wp2_with fail
    refine (or_run u v _ _ (cell_of_row _ _ 0 _ _ (0, 0) (heap_alloc_new _ _)) (cell_of_row _ _ 1 _ _ (0, 0) (heap_alloc_new _ _))).mono ?_
    rintro e w2 ⟨rfl, rfl⟩
    go_wp2_with fail
    go_ret
    exact ⟨by rw [HV.out]; rfl, #[.cells #[.int .i64 u, .int .i64 v] 3], Go.Sort.alloc_eq_grow _ _⟩

/-- The three keys of the order of sets. -/
def rkA (a : Int) : Int := if setB a = true then 1 else 0

def rkB (a : Int) : Int := if setB a = true then (popc a.toNat : Nat) else 0

theorem orI_lt (x y : Int) : (orI x y < 0) ↔ (x < 0 ∨ (x = 0 ∧ y < 0)) := by unfold orI; split <;> omega

theorem cmpI_lt (x y : Int) : (cmpI x y < 0) ↔ x < y := by unfold cmpI; split <;> (try split) <;> omega

theorem cmpI_eq (x y : Int) : (cmpI x y = 0) ↔ x = y := by unfold cmpI; split <;> (try split) <;> omega

theorem cmpN_lt (x y : Int) : (cmpN x y < 0) ↔ (rkA x < rkA y ∨ (rkA x = rkA y ∧ (rkB x < rkB y ∨ (rkB x = rkB y ∧ x < y)))) := by
  unfold cmpN rkA rkB
  cases setB x <;> cases setB y <;> simp [orI_lt, cmpI_lt, cmpI_eq]

theorem cmpN_cast (s t : Nat) (hs : s < 1024) (ht : t < 1024) : (cmpN s t < 0) ↔ keyC s < keyC t := by
  have h1 : setB (s : Int) = true := setB_iff.2 ⟨by omega, by omega⟩
  have h2 : setB (t : Int) = true := setB_iff.2 ⟨by omega, by omega⟩
  rw [cmpN_lt]
  unfold rkA rkB keyC
  rw [if_pos h1, if_pos h2, if_pos h1, if_pos h2]
  simp only [Int.toNat_natCast, Int.lt_irrefl, false_or, true_and, Int.ofNat_lt, Int.natCast_inj]
  omega

theorem zc_eq : Tryd.zeroCells62 = Array.replicate 1024 (.bool false) := by kernel_rfl

theorem zc_size : Tryd.zeroCells62.size = 1024 := by rw [zc_eq]; exact Array.size_replicate

theorem zc_one : Tryd.zeroCells62.all (·.oneCell') = true := by rw [zc_eq, Array.all_eq_true]; intro i hi; rw [Array.getElem_replicate]; rfl

theorem zc_info : (Tryd.prog.info? 62).map (·.size) = some Tryd.zeroCells62.size := by rw [zc_size]; kernel_rfl

/-- Block tb says which sets are there. -/
def ThereAt (w : World) (tb : Nat) (p : Nat → Bool) : Prop := ∃ c, w.heap[tb]? = some (.cells c 62 (0, 0)) ∧ c.size = 1024 ∧ ∀ t, t < 1024 → c[t]? = some (.bool (p t))

theorem ThereAt.zero (w : World) : ThereAt (w.alloc (.cells Tryd.zeroCells62 62)) w.heap.size (fun _ => false) :=
  ⟨_, heap_alloc_new _ _, zc_size, fun t ht => by rw [zc_eq, Array.getElem?_replicate, if_pos ht]⟩

theorem ThereAt.keep {w w' : World} {tb : Nat} {p : Nat → Bool} (h : ThereAt w tb p) (hk : w'.heap[tb]? = w.heap[tb]?) : ThereAt w' tb p := by
  obtain ⟨c, h1, h2⟩ := h; exact ⟨c, hk.trans h1, h2⟩

theorem ThereAt.lt {w : World} {tb : Nat} {p : Nat → Bool} (h : ThereAt w tb p) : tb < w.heap.size := by
  obtain ⟨c, h1, h2⟩ := h
  rcases Nat.lt_or_ge tb w.heap.size with h3 | h3
  · exact h3
  · rw [Array.getElem?_eq_none h3] at h1; cases h1

theorem ThereAt.below {w w' : World} {tb : Nat} {p : Nat → Bool} (h : ThereAt w tb p) (hb : Below w.heap.size w w') : ThereAt w' tb p := h.keep (hb.block _ h.lt)

theorem ThereAt.cell {w : World} {tb : Nat} {p : Nat → Bool} (h : ThereAt w tb p) (t : Nat) (ht : t < 1024) : w.cell? ⟨tb, t, none⟩ = some (.bool (p t)) := by
  obtain ⟨c, h1, h2, h3⟩ := h
  rw [cell_of_row _ _ t c _ (0, 0) h1]; exact h3 t ht

theorem ThereAt.fr {w : World} {tb : Nat} {p : Nat → Bool} (h : ThereAt w tb p) (t : Nat) : w.frozen? ⟨tb, t, none⟩ = false := by
  obtain ⟨c, h1, _⟩ := h
  simp [World.frozen?, h1]

theorem ThereAt.congr {w : World} {tb : Nat} {p q : Nat → Bool} (h : ThereAt w tb p) (hq : ∀ t, t < 1024 → q t = p t) : ThereAt w tb q := by
  obtain ⟨c, h1, h2, h3⟩ := h
  exact ⟨c, h1, h2, fun t ht => by rw [hq t ht]; exact h3 t ht⟩

theorem ThereAt.set {w : World} {tb : Nat} {p : Nat → Bool} (h : ThereAt w tb p) (s : Nat) (hs : s < 1024) : ThereAt (w.setCell ⟨tb, s, none⟩ (.bool true)) tb (fun t => p t || t == s) := by
  obtain ⟨c, h1, h2, h3⟩ := h
  refine ⟨c.setIfInBounds s (.bool true), ?_, by simp [h2], fun t ht => ?_⟩
  · simp [World.setCell, Array.getElem?_modify, h1]
  · rw [Array.getElem?_setIfInBounds]
    by_cases e : s = t
    · subst e; rw [if_pos rfl, if_pos (by omega)]; simp
    · rw [if_neg e, h3 t ht]
      have : (t == s) = false := by simp; omega
      simp only [this, Bool.or_false]

set_option maxHeartbeats 1000000 in
theorem least1_run (tb : Nat) (p : Nat → Bool) (t : Nat) (ht : t < 1024) (w : World) (h : ThereAt w tb p) :
    Calls Tryd.prog 36 #[.int .i64 (t : Int), .pointer (some ⟨tb, 0, none⟩)] w fun e w' => e = .returned (.bool (p t)) ∧ w = w' := by
  have h1 := h.cell t ht
  generalize p t = b at *
  clear h
  go_enter Tryd.func36, Tryd.ntmps36
  go_wp2_with fail
  go_ret
  exact ⟨rfl, rfl⟩

theorem dif_nat (a b : Nat) (ha : a < 1024) (hb : b < 1024) : bits .andNot .i64 (a : Int) (b : Int) = ((a ^^^ (a &&& b) : Nat) : Int) := by
  have hx : a ^^^ (a &&& b) < 2 ^ 63 := Nat.xor_lt_two_pow (by omega) (Nat.lt_of_le_of_lt Nat.and_le_left (by omega))
  show IntKind.i64.wrap ((BitVec.ofInt 64 (a : Int) &&& ~~~BitVec.ofInt 64 (b : Int)).toNat : Int) = _
  have e : (BitVec.ofInt 64 (a : Int) &&& ~~~BitVec.ofInt 64 (b : Int)).toNat = a ^^^ (a &&& b) := by
    apply Nat.eq_of_testBit_eq
    intro i
    rw [BitVec.toNat_and, BitVec.toNat_not, ofInt_i64 a (by omega), ofInt_i64 b (by omega), Nat.testBit_and, Nat.testBit_xor, Nat.testBit_and]
    have h2 : (2 : Nat) ^ 64 - 1 - b = 2 ^ 64 - (b + 1) := by omega
    rw [h2, Nat.testBit_two_pow_sub_succ (by omega)]
    rcases Nat.lt_or_ge i 64 with hi | hi
    · simp only [hi, decide_true, Bool.true_and]
      cases a.testBit i <;> cases b.testBit i <;> rfl
    · have h10 : (1024 : Nat) ≤ 2 ^ i := Nat.le_trans (by decide) (Nat.pow_le_pow_right (n := 2) (by omega) hi)
      rw [Nat.testBit_lt_two_pow (show a < 2 ^ i by omega)]; rfl
  rw [e, IntKind.wrap_i64]
  omega

/-- Is t a subset of s? -/
def subB (t s : Nat) : Bool := t &&& s == t

theorem xor_zero {a b : Nat} : a ^^^ b = 0 ↔ a = b := by
  constructor
  · intro h
    apply Nat.eq_of_testBit_eq
    intro i
    have := congrArg (fun x => x.testBit i) h
    simp only [Nat.testBit_xor, Nat.zero_testBit] at this
    revert this
    cases a.testBit i <;> cases b.testBit i <;> simp
  · rintro rfl; exact Nat.xor_self _

theorem andnot_sub (t s : Nat) (ht : t < 1024) (hs : s < 1024) : (bits .andNot .i64 (t : Int) (s : Int) == 0) = subB t s := by
  rw [dif_nat t s ht hs]
  unfold subB
  rw [Bool.eq_iff_iff]
  simp only [beq_iff_eq]
  rw [show ((0 : Int)) = ((0 : Nat) : Int) from rfl, Int.natCast_inj, xor_zero]
  exact eq_comm

set_option maxHeartbeats 1000000 in
theorem least2_run (sb s t : Nat) (ht : t < 1024) (hs : s < 1024) (w : World) (h : w.cell? ⟨sb, 0, none⟩ = some (.int .i64 (s : Int))) :
    Calls Tryd.prog 37 #[.int .i64 (t : Int), .pointer (some ⟨sb, 0, none⟩)] w fun e w' => e = .returned (.bool (subB t s)) ∧ w = w' := by
  have HA := Lib.hid (andnot_sub t s ht hs)
  go_enter Tryd.func37, Tryd.ntmps37
  go_wp2_with fail
  go_ret
  exact ⟨by rw [← HA.out]; rfl, rfl⟩

end Go.Proofs.YtfchdkgdbdnoiaaDoor
