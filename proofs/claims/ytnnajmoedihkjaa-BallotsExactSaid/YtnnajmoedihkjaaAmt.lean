/- Contracts of package amount: what each function returns on the inputs that the laws use. -/
import Derived.Test.YtnnajmoedihkjaaKit
import Derived.Deep.QuietTactic
import Derived.BigQuiet
import Derived.RegionTactic
import Derived.ChangeAlike
namespace Go.Proofs.Ytnnajmoedihkjaa
set_option linter.unusedVariables false
set_option linter.unusedSimpArgs false
open Go.RowKit

def okI (x : Int) : Bool := decide (0 ≤ x) && decide (x ≤ 1000000000000)

theorem okI_yes {x : Int} (h0 : 0 ≤ x) (h1 : x ≤ 1000000000000) : okI x = true := by unfold okI; simp [h0, h1]

theorem okI_of {x : Int} (h : okI x = true) : 0 ≤ x ∧ x ≤ 1000000000000 := by unfold okI at h; simpa using h

set_option maxHeartbeats 400000 in
theorem valid_any (n : Int) (w : World) :
    Calls Try.prog 35 #[.int .i64 n] w fun e w' => e = .returned (.bool (okI n)) ∧ w = w' := by
  have key : ∀ b : Bool, okI n = b → Calls Try.prog 35 #[.int .i64 n] w fun e w' => e = .returned (.bool b) ∧ w = w' := by
    intro b hb
    by_cases h0 : 0 ≤ n
    · by_cases h1 : n ≤ 1000000000000
      · obtain rfl : true = b := by rw [← hb, okI_yes h0 h1]
        clear hb
        go_enter Try.func35, Try.ntmps35
        go_wp2
        go_ret
        exact ⟨rfl, rfl⟩
      · obtain rfl : false = b := by rw [← hb]; unfold okI; simp [h1]
        clear hb
        go_enter Try.func35, Try.ntmps35
        go_wp2
        go_ret
        exact ⟨rfl, rfl⟩
    · obtain rfl : false = b := by rw [← hb]; unfold okI; simp [h0]
      clear hb
      go_enter Try.func35, Try.ntmps35
      go_wp2
      go_ret
      exact ⟨rfl, rfl⟩
  exact key _ rfl

def okP (n d : Int) : Bool := decide (1 ≤ n) && decide (n ≤ 1000000) && decide (1 ≤ d) && decide (d ≤ 1000000)

theorem okP_yes {n d : Int} (h0 : 1 ≤ n) (h1 : n ≤ 1000000) (h2 : 1 ≤ d) (h3 : d ≤ 1000000) : okP n d = true := by unfold okP; simp [h0, h1, h2, h3]

theorem okP_of {n d : Int} (h : okP n d = true) : 1 ≤ n ∧ n ≤ 1000000 ∧ 1 ≤ d ∧ d ≤ 1000000 := by unfold okP at h; simpa [and_assoc] using h

set_option maxHeartbeats 400000 in
theorem price_any (n d : Int) (w : World) :
    Calls Try.prog 37 #[.int .i64 n, .int .i64 d] w fun e w' => e = .returned (.bool (okP n d)) ∧ w = w' := by
  cases hb : okP n d
  · have hn : ¬ (1 ≤ n ∧ n ≤ 1000000 ∧ 1 ≤ d ∧ d ≤ 1000000) := fun h => by rw [okP_yes h.1 h.2.1 h.2.2.1 h.2.2.2] at hb; cases hb
    clear hb
    by_cases h0 : 1 ≤ n <;> by_cases h1 : n ≤ 1000000 <;> by_cases h2 : 1 ≤ d <;> by_cases h3 : d ≤ 1000000
    all_goals (first | (exfalso; omega) | skip)
    all_goals
      clear hn
      go_enter Try.func37, Try.ntmps37
      go_wp2
      go_ret
      exact ⟨rfl, rfl⟩
  · obtain ⟨h0, h1, h2, h3⟩ := okP_of hb
    clear hb
    go_enter Try.func37, Try.ntmps37
    go_wp2
    go_ret
    exact ⟨rfl, rfl⟩

def resV (n : Int) (l : List Int) : Value := if (l ++ [n]).all okI then .tuple #[.int .i64 n, .int .i64 0] else .tuple #[.int .i64 0, .int .i64 65]

theorem resV_yes {n : Int} {l : List Int} (h : ∀ j, j < l.length + 1 → okI ((l ++ [n]).getD j 0) = true) : resV n l = .tuple #[.int .i64 n, .int .i64 0] := by
  unfold resV
  rw [if_pos]
  rw [List.all_eq_true]
  intro x hx
  obtain ⟨j, hj, rfl⟩ := List.getElem_of_mem hx
  have := h j (by simpa using hj)
  rw [List.getD_eq_getElem?_getD, List.getElem?_eq_getElem hj] at this
  exact this

theorem resV_no {n : Int} {l : List Int} (j : Nat) (hj : j < l.length + 1) (h : okI ((l ++ [n]).getD j 0) = false) : resV n l = .tuple #[.int .i64 0, .int .i64 65] := by
  unfold resV
  rw [if_neg]
  intro hall
  rw [List.all_eq_true] at hall
  have hj' : j < (l ++ [n]).length := by simpa using hj
  have := hall ((l ++ [n])[j]) (List.getElem_mem hj')
  rw [List.getD_eq_getElem?_getD, List.getElem?_eq_getElem hj'] at h
  simp at h
  rw [h] at this
  cases this

set_option maxHeartbeats 400000 in
theorem result_run (n : Int) (l : List Int) (m : Nat) (w : World) (b : Nat) (hm : l.length = m) (h1 : 1 ≤ m) (h2 : m ≤ 2) (hb : b < w.heap.size)
    (hc : ∀ j (u : Value), (l.map (Value.int .i64))[j]? = some u → w.cell? ⟨b, 0 + j, none⟩ = some u) :
    Calls Try.prog 60 #[.int .i64 n, .slice (some ⟨b, 0, none⟩) m m] w fun e w' => e = .returned (resV n l) ∧ Below w.heap.size w w' := by
  obtain ⟨i0, hi, hz0, hz1, hz2⟩ := info_parts infoInt
  have hlm : (l.map (Value.int .i64)).length = m * 1 := by simp [hm]
  have HY := Lib.hid (@resV_yes n l)
  have HN := Lib.hid (@resV_no n l)
  have HM := Lib.hid hm
  clear hm
  go_enter Try.func60, Try.ntmps60
  go_wp2_with (at_builtin; refine wpList_append_grows _ rfl _ _ 22 rfl 3 i0 (.int .i64 0) 1 8 Try.underlying22 hi hz0 hz1 hz2 rfl (by decide) (some ⟨b, 0, none⟩) m m (l.map (Value.int .i64)) rfl (fun h => by cases h) hlm (oldcells hb hc _) ⟨w.heap.size, 0, none⟩ 1 1 [.int .i64 n] rfl rfl (cell_one_new _ _ _) (fun u hu => by simp at hu; subst hu; rfl) (by omega) (by unfold maxLen; omega) (by omega) ?_; intro v' w1 hown hgrow; obtain ⟨g, cap, rfl, hg0, hlt⟩ := hown.form (by omega))
  have hbel : Below w.heap.size w w1 := ((Below.refl w.heap.size w).alloc (Nat.le_refl _) (.cells #[.int .i64 n] 3)).grown hgrow (by simp) (by simp)
  have hcell : ∀ k, k < m + 1 → w1.cell? ⟨g, k, none⟩ = some (.int .i64 ((l ++ [n]).getD k 0)) := by
    intro k hk
    have := hown.cells rfl k (.int .i64 ((l ++ [n]).getD k 0)) (by
      have hk' : k < (l ++ [n]).length := by have := HM.out; simp; omega
      rw [show (l.map (Value.int .i64)) ++ [Value.int .i64 n] = (l ++ [n]).map (Value.int .i64) from by simp, List.getElem?_map, List.getElem?_eq_getElem hk', List.getD_eq_getElem?_getD, List.getElem?_eq_getElem hk']
      rfl)
    rw [Addr.add_lit] at this
    simpa using this
  have HC := Lib.hid hcell
  clear hcell hown hgrow hi hz0 hz1 hz2 hc hlm
  go_loop [13] (fun i => ∃ k : Nat, k ≤ m + 1 ∧ i = .int .i64 k ∧ Hid (∀ j, j < k → okI ((l ++ [n]).getD j 0) = true)) (fun i => m + 1 - (intOf i).toNat)
  case atStart => exact ⟨0, Nat.zero_le _, rfl, Lib.hid (fun j hj => absurd hj (by omega))⟩
  case round =>
    obtain ⟨k, hk, rfl, hok⟩ := hrel
    by_cases hlt' : k < m + 1
    · have hcell := HC.out k hlt'
      obtain ⟨x, hx⟩ : ∃ x, (l ++ [n]).getD k 0 = x := ⟨_, rfl⟩
      rw [hx] at hcell
      have HX := Lib.hid hx
      clear hx
      cases hb' : okI x
      all_goals
        go_wp2_with (go_at_call 35; refine (valid_any _ _).mono ?_; rintro e w2 ⟨rfl, rfl⟩)
      · go_ret2
        exact ⟨by rw [HN.out k (by rw [HM.out]; exact hlt') (by rw [HX.out]; exact hb')]; rfl, hbel⟩
      · go_round
        case rel => exact ⟨k + 1, by omega, by go_num, Lib.hid (fun j hj => by
            by_cases e : j = k
            · subst e; rw [HX.out]; exact hb'
            · exact hok.out j (by omega))⟩
        case measure => simp [intOf]; omega
    · go_wp2
      go_ret2
      exact ⟨by rw [HY.out (by rw [HM.out]; intro j hj; exact hok.out j (by omega))]; rfl, hbel⟩

def timesV (a n d m : Int) : Value := if okI a && okP n d then resV ((a * n + m) / d) [a] else .tuple #[.int .i64 0, .int .i64 65]

theorem resV_form (n : Int) (l : List Int) : ∃ x y : Int, resV n l = .tuple #[.int .i64 x, .int .i64 y] := by
  unfold resV; split
  · exact ⟨_, _, rfl⟩
  · exact ⟨_, _, rfl⟩

theorem timesV_form (a n d m : Int) : ∃ x y : Int, timesV a n d m = .tuple #[.int .i64 x, .int .i64 y] := by
  unfold timesV; split
  · exact resV_form _ _
  · exact ⟨_, _, rfl⟩

set_option maxHeartbeats 400000 in
theorem times_run (a n d m : Int) (w : World) (hm : okP n d = true → 0 ≤ m ∧ m ≤ 1000000) :
    Calls Try.prog 62 #[.int .i64 a, .int .i64 n, .int .i64 d, .int .i64 m] w fun e w' => e = .returned (timesV a n d m) ∧ Below w.heap.size w w' := by
  cases h1 : okI a
  · have hv : timesV a n d m = .tuple #[.int .i64 0, .int .i64 65] := by unfold timesV; simp [h1]
    have HV := Lib.hid hv
    clear hv hm
    go_enter Try.func62, Try.ntmps62
    go_wp2_with (go_at_call 35; refine (valid_any _ _).mono ?_; rintro e w2 ⟨rfl, rfl⟩)
    go_ret2
    exact ⟨by rw [HV.out]; rfl, Below.refl _ _⟩
  · cases h2 : okP n d
    · have hv : timesV a n d m = .tuple #[.int .i64 0, .int .i64 65] := by unfold timesV; simp [h2]
      have HV := Lib.hid hv
      clear hv hm
      go_enter Try.func62, Try.ntmps62
      go_wp2_with (first | (go_at_call 35; refine (valid_any _ _).mono ?_; rintro e w2 ⟨rfl, rfl⟩) | (go_at_call 37; refine (price_any _ _ _).mono ?_; rintro e w2 ⟨rfl, rfl⟩))
      go_ret2
      exact ⟨by rw [HV.out]; rfl, Below.refl _ _⟩
    · have hv : timesV a n d m = resV ((a * n + m) / d) [a] := by unfold timesV; simp [h1, h2]
      obtain ⟨m0, m1⟩ := hm h2
      obtain ⟨a0, a1⟩ := okI_of h1
      obtain ⟨n0, n1, d0, d1⟩ := okP_of h2
      have p0 : 0 ≤ a * n := Int.mul_nonneg a0 (by omega)
      have p1 : a * n ≤ 1000000000000000000 := by
        have := Int.mul_le_mul a1 n1 (by omega) (by omega)
        omega
      obtain ⟨x, y, hxy⟩ := resV_form ((a * n + m) / d) [a]
      have HV := Lib.hid hv
      have HX := Lib.hid hxy
      clear hv hm hxy
      go_enter Try.func62, Try.ntmps62
      go_wp2_with (first | (go_at_call 35; refine (valid_any _ _).mono ?_; rintro e w2 ⟨rfl, rfl⟩) | (go_at_call 37; refine (price_any _ _ _).mono ?_; rintro e w2 ⟨rfl, rfl⟩))
      refine (result_run _ [a] 1 _ w.heap.size rfl (by omega) (by omega) (by simp) (fun j u hu => by have := cell_one_new w (.int .i64 a) 3 j u hu; rwa [Addr.add_lit] at this)).mono ?_
      rintro e w2 ⟨rfl, hb2⟩
      rw [HX.out]
      go_wp2
      go_ret2
      exact ⟨by rw [HV.out, HX.out]; rfl, ((Below.refl _ _).alloc (Nat.le_refl _) _).trans (hb2.mono (by simp))⟩

def upQ (a n d : Int) : Int := (a * n + (d - 1)) / d

def dnQ (a n d : Int) : Int := (a * n + 0) / d

theorem resV_ok {x a : Int} (hx0 : 0 ≤ x) (hx1 : x ≤ 1000000000000) (ha : okI a = true) : resV x [a] = .tuple #[.int .i64 x, .int .i64 0] := by
  unfold resV
  rw [if_pos]
  simp [ha, okI_yes hx0 hx1]

theorem upQ_nonneg {a n d : Int} (ha0 : 0 ≤ a) (hn0 : 1 ≤ n) (hd0 : 1 ≤ d) : 0 ≤ upQ a n d :=
  Int.ediv_nonneg (by have := Int.mul_nonneg ha0 (show 0 ≤ n by omega); omega) (by omega)

theorem dnQ_nonneg {a n d : Int} (ha0 : 0 ≤ a) (hn0 : 1 ≤ n) (hd0 : 1 ≤ d) : 0 ≤ dnQ a n d :=
  Int.ediv_nonneg (by have := Int.mul_nonneg ha0 (show 0 ≤ n by omega); omega) (by omega)

theorem timesV_ok {a n d m : Int} (ha : okI a = true) (hp : okP n d = true) (h0 : 0 ≤ (a * n + m) / d) (h1 : (a * n + m) / d ≤ 1000000000000) :
    timesV a n d m = .tuple #[.int .i64 ((a * n + m) / d), .int .i64 0] := by
  unfold timesV
  rw [ha, hp]
  exact (if_pos rfl).trans (resV_ok h0 h1 ha)

set_option maxHeartbeats 400000 in
theorem up_run (a n d : Int) (w : World) (h0 : -9223372036854775807 ≤ d) (h1 : d ≤ 9223372036854775807) :
    Calls Try.prog 47 #[.int .i64 a, .int .i64 n, .int .i64 d] w fun e w' => e = .returned (timesV a n d (d - 1)) ∧ Below w.heap.size w w' := by
  obtain ⟨x, y, hxy⟩ := timesV_form a n d (d - 1)
  have HX := Lib.hid hxy
  clear hxy
  go_enter Try.func47, Try.ntmps47
  go_wp2_with fail
  refine (times_run a n d (d - 1) _ (fun h => by have := okP_of h; omega)).mono ?_
  rintro e w2 ⟨rfl, hb2⟩
  rw [HX.out]
  go_wp2
  go_ret2
  exact ⟨by rw [HX.out]; rfl, hb2⟩

set_option maxHeartbeats 400000 in
theorem down_run (a n d : Int) (w : World) :
    Calls Try.prog 45 #[.int .i64 a, .int .i64 n, .int .i64 d] w fun e w' => e = .returned (timesV a n d 0) ∧ Below w.heap.size w w' := by
  obtain ⟨x, y, hxy⟩ := timesV_form a n d 0
  have HX := Lib.hid hxy
  clear hxy
  go_enter Try.func45, Try.ntmps45
  go_wp2_with fail
  refine (times_run a n d 0 _ (fun h => by omega)).mono ?_
  rintro e w2 ⟨rfl, hb2⟩
  rw [HX.out]
  go_wp2
  go_ret2
  exact ⟨by rw [HX.out]; rfl, hb2⟩

theorem up_ok (a n d : Int) (w : World) (ha0 : 0 ≤ a) (ha1 : a ≤ 1000000000000) (hn0 : 1 ≤ n) (hn1 : n ≤ 1000000) (hd0 : 1 ≤ d) (hd1 : d ≤ 1000000) (hq : upQ a n d ≤ 1000000000000) :
    Calls Try.prog 47 #[.int .i64 a, .int .i64 n, .int .i64 d] w fun e w' => e = .returned (.tuple #[.int .i64 (upQ a n d), .int .i64 0]) ∧ Below w.heap.size w w' :=
  (up_run a n d w (by omega) (by omega)).mono fun e w' ⟨he, hw⟩ => ⟨by rw [he, timesV_ok (okI_yes ha0 ha1) (okP_yes hn0 hn1 hd0 hd1) (upQ_nonneg ha0 hn0 hd0) hq]; rfl, hw⟩

theorem down_ok (a n d : Int) (w : World) (ha0 : 0 ≤ a) (ha1 : a ≤ 1000000000000) (hn0 : 1 ≤ n) (hn1 : n ≤ 1000000) (hd0 : 1 ≤ d) (hd1 : d ≤ 1000000) (hq : dnQ a n d ≤ 1000000000000) :
    Calls Try.prog 45 #[.int .i64 a, .int .i64 n, .int .i64 d] w fun e w' => e = .returned (.tuple #[.int .i64 (dnQ a n d), .int .i64 0]) ∧ Below w.heap.size w w' :=
  (down_run a n d w).mono fun e w' ⟨he, hw⟩ => ⟨by rw [he, timesV_ok (okI_yes ha0 ha1) (okP_yes hn0 hn1 hd0 hd1) (dnQ_nonneg ha0 hn0 hd0) hq]; rfl, hw⟩

def cmpI (a b : Int) : Int := if a < b then -1 else if b < a then 1 else 0

set_option maxHeartbeats 400000 in
theorem cmp_any (a b : Int) (w : World) :
    Calls Try.prog 61 #[.int .i64 a, .int .i64 b] w fun e w' => e = .returned (.int .i64 (cmpI a b)) ∧ w = w' := by
  rcases Int.lt_trichotomy a b with h | h | h
  · have hv : cmpI a b = -1 := by unfold cmpI; rw [if_pos h]
    have HV := Lib.hid hv
    clear hv
    go_enter Try.func61, Try.ntmps61
    go_wp2
    go_ret
    exact ⟨by rw [HV.out]; rfl, rfl⟩
  · subst h
    have hv : cmpI a a = 0 := by unfold cmpI; simp
    have HV := Lib.hid hv
    clear hv
    go_enter Try.func61, Try.ntmps61
    go_wp2
    go_ret
    exact ⟨by rw [HV.out]; rfl, rfl⟩
  · have hv : cmpI a b = 1 := by unfold cmpI; rw [if_neg (by omega), if_pos h]
    have HV := Lib.hid hv
    have hn : ¬ a < b := by omega
    clear hv
    go_enter Try.func61, Try.ntmps61
    go_wp2
    go_ret
    exact ⟨by rw [HV.out]; rfl, rfl⟩

set_option maxHeartbeats 400000 in
theorem compare_ok (a b c d : Int) (w : World) (ha0 : 1 ≤ a) (ha1 : a ≤ 1000000) (hb0 : 1 ≤ b) (hb1 : b ≤ 1000000) (hc0 : 1 ≤ c) (hc1 : c ≤ 1000000) (hd0 : 1 ≤ d) (hd1 : d ≤ 1000000) :
    Calls Try.prog 43 #[.int .i64 a, .int .i64 b, .int .i64 c, .int .i64 d] w fun e w' => e = .returned (.int .i64 (cmpI (a * d) (c * b))) ∧ w = w' := by
  have p1 := okP_yes ha0 ha1 hb0 hb1
  have p2 := okP_yes hc0 hc1 hd0 hd1
  have q1 : 0 ≤ a * d := Int.mul_nonneg (by omega) (by omega)
  have q2 : 0 ≤ c * b := Int.mul_nonneg (by omega) (by omega)
  have q3 : a * d ≤ 1000000 * 1000000 := Int.mul_le_mul ha1 hd1 (by omega) (by omega)
  have q4 : c * b ≤ 1000000 * 1000000 := Int.mul_le_mul hc1 hb1 (by omega) (by omega)
  go_enter Try.func43, Try.ntmps43
  go_wp2_with (first | (go_at_call 37; refine (price_any _ _ _).mono ?_; rintro e w2 ⟨rfl, rfl⟩) | (go_at_call 61; refine (cmp_any _ _ _).mono ?_; rintro e w2 ⟨rfl, rfl⟩))
  go_ret
  exact ⟨rfl, rfl⟩

end Go.Proofs.Ytnnajmoedihkjaa
