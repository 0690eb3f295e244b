/- The three assets of the source (none, USD of 1, EUR of 2), and the contracts of package amount over them. -/
import Derived.Test.YtnnajmoedihkjaaBal
import Derived.Test.YtnnajmoedihkjaaAmtRed
import Derived.Deep.RegionHeld3
namespace Go.Proofs.Ytnnajmoedihkjaa
set_option linter.unusedVariables false
set_option linter.unusedSimpArgs false
open Go.RowKit

def codeOf (a : Nat) : ByteArray := match a with | 1 => ⟨#[85, 83, 68]⟩ | 2 => ⟨#[69, 85, 82]⟩ | _ => ⟨#[]⟩

def issOf (a : Nat) : Int := match a with | 1 => 1 | 2 => 2 | _ => 0

def cmpS (a b : Nat) : Int := match a, b with | 0, 0 => 0 | 0, _ => -1 | _, 0 => 1 | 1, 1 => 0 | 1, _ => 1 | 2, 1 => -1 | _, _ => 0

def orI (x y : Int) : Int := if x = 0 then y else x

def lessA (a b : Nat) : Bool := decide (orI (cmpS a b) (cmpI (issOf a) (issOf b)) < 0)

set_option maxHeartbeats 1000000 in
theorem cmpS_run (a b : Nat) (w : World) (ha : a ≤ 2) (hb : b ≤ 2) :
    Calls Try.prog 66 #[.string (codeOf a), .string (codeOf b)] w fun e w' => e = .returned (.int .i64 (cmpS a b)) ∧ w = w' := by
  match a, b, ha, hb with
  | 0, 0, _, _ | 0, 1, _, _ | 0, 2, _, _ | 1, 0, _, _ | 1, 1, _, _ | 1, 2, _, _ | 2, 0, _, _ | 2, 1, _, _ | 2, 2, _, _ =>
    unfold codeOf
    go_enter Try.func66, Try.ntmps66
    go_wp2
    go_ret
    exact ⟨rfl, rfl⟩

set_option maxHeartbeats 1000000 in
theorem or_run (x y : Int) (g : Nat) (w : World) (h0 : w.cell? ⟨g, 0, none⟩ = some (.int .i64 x)) (h1 : w.cell? ⟨g, 1, none⟩ = some (.int .i64 y)) :
    Calls Try.prog 65 #[.slice (some ⟨g, 0, none⟩) 2 2] w fun e w' => e = .returned (.int .i64 (orI x y)) ∧ w = w' := by
  have key : ∀ r, orI x y = r → (x = 0 → y = 0 ∨ y ≠ 0) := fun _ _ _ => by omega
  by_cases hx : x = 0
  · have hx0 : (x == 0) = true := by simp [hx]
    have hx1 : (x != 0) = false := by simp [hx]
    by_cases hy : y = 0
    · have hy0 : (y != 0) = false := by simp [hy]
      have HO := Lib.hid (show orI x y = 0 by unfold orI; simp [hx, hy])
      clear key hx hy
      go_enter Try.func65, Try.ntmps65
      go_wp2_with fail
      go_loop [8] (fun t => ∃ q : Nat, q ≤ 2 ∧ t = .int .i64 q) (fun t => 2 - (intOf t).toNat)
      case atStart => exact ⟨0, by omega, rfl⟩
      case round =>
        obtain ⟨q, hq, rfl⟩ := hrel
        match q, hq with
        | 0, _ =>
          go_wp2_with fail
          go_round
          case rel => exact ⟨1, by omega, rfl⟩
          case measure => simp [intOf]
        | 1, _ =>
          go_wp2_with fail
          go_round
          case rel => exact ⟨2, by omega, rfl⟩
          case measure => simp [intOf]
        | 2, _ =>
          go_wp2_with fail
          go_ret
          exact ⟨by rw [HO.out]; rfl, rfl⟩
    · have hy0 : (y != 0) = true := by simp [hy]
      have HO := Lib.hid (show orI x y = y by unfold orI; simp [hx])
      clear key hx hy
      go_enter Try.func65, Try.ntmps65
      go_wp2_with fail
      go_loop [8] (fun t => ∃ q : Nat, q ≤ 1 ∧ t = .int .i64 q) (fun t => 2 - (intOf t).toNat)
      case atStart => exact ⟨0, by omega, rfl⟩
      case round =>
        obtain ⟨q, hq, rfl⟩ := hrel
        match q, hq with
        | 0, _ =>
          go_wp2_with fail
          go_round
          case rel => exact ⟨1, by omega, rfl⟩
          case measure => simp [intOf]
        | 1, _ =>
          go_wp2_with fail
          go_ret
          exact ⟨by rw [HO.out]; rfl, rfl⟩
  · have hx1 : (x != 0) = true := by simp [hx]
    have HO := Lib.hid (show orI x y = x by unfold orI; simp [hx])
    clear key hx
    go_enter Try.func65, Try.ntmps65
    go_wp2_with fail
    go_loop [8] (fun t => t = .int .i64 0) (fun t => 0)
    case atStart => rfl
    case round =>
      obtain rfl := hrel
      go_wp2_with fail
      go_ret
      exact ⟨by rw [HO.out]; rfl, rfl⟩

set_option maxHeartbeats 400000 in
theorem Usd_run (w : World) : Calls Try.prog 63 #[] w fun e w' => e = .returned (.agg #[.string (codeOf 1), .int .i64 (issOf 1)]) ∧ Below w.heap.size w w' := by
  go_enter Try.func63, Try.ntmps63
  go_wp2
  exact bodyPost_ret (v := .agg #[.string (codeOf 1), .int .i64 (issOf 1)]) (by simp [results, Try.results63, go_sem, codeOf, issOf]) rfl ⟨rfl, balloc (bref _) _⟩

set_option maxHeartbeats 400000 in
theorem Eur_run (w : World) : Calls Try.prog 64 #[] w fun e w' => e = .returned (.agg #[.string (codeOf 2), .int .i64 (issOf 2)]) ∧ Below w.heap.size w w' := by
  go_enter Try.func64, Try.ntmps64
  go_wp2
  exact bodyPost_ret (v := .agg #[.string (codeOf 2), .int .i64 (issOf 2)]) (by simp [results, Try.results64, go_sem, codeOf, issOf]) rfl ⟨rfl, balloc (bref _) _⟩

theorem keepA {W w1 : World} {g : Nat} {v0 v1 v2 v3 : Value}
    (h : W.cell? ⟨g, 0, none⟩ = some v0 ∧ W.cell? ⟨g, 1, none⟩ = some v1 ∧ W.cell? ⟨g + 1, 0, none⟩ = some v2 ∧ W.cell? ⟨g + 1, 1, none⟩ = some v3) (hb : Below W.heap.size W w1) :
    w1.cell? ⟨g, 0, none⟩ = some v0 ∧ w1.cell? ⟨g, 1, none⟩ = some v1 ∧ w1.cell? ⟨g + 1, 0, none⟩ = some v2 ∧ w1.cell? ⟨g + 1, 1, none⟩ = some v3 :=
  ⟨(hb.cell (cell_lt h.1)).trans h.1, (hb.cell (cell_lt h.2.1)).trans h.2.1, (hb.cell (cell_lt h.2.2.1)).trans h.2.2.1, (hb.cell (cell_lt h.2.2.2)).trans h.2.2.2⟩

set_option maxHeartbeats 1000000 in
theorem lessA_run (a b : Nat) (w : World) (ha : a ≤ 2) (hb : b ≤ 2) :
    Calls Try.prog 55 #[.agg #[.string (codeOf a), .int .i64 (issOf a)], .agg #[.string (codeOf b), .int .i64 (issOf b)]] w fun e w' => e = .returned (.bool (lessA a b)) ∧ Below w.heap.size w w' := by
  go_enter Try.func55, Try.ntmps55
  go_wp2_with fail
  go_region_held3 (fun W => W.cell? ⟨w.heap.size, 0, none⟩ = some (.string (codeOf a)) ∧ W.cell? ⟨w.heap.size, 1, none⟩ = some (.int .i64 (issOf a)) ∧ W.cell? ⟨w.heap.size + 1, 0, none⟩ = some (.string (codeOf b)) ∧ W.cell? ⟨w.heap.size + 1, 1, none⟩ = some (.int .i64 (issOf b))) (first | go_keep | exact keepA (by assumption) (balloc (bref _) _))
    (first
      | (go_at_call 66; refine (cmpS_run _ _ _ ha hb).mono ?_; rintro e WK ⟨rfl, rfl⟩)
      | (go_at_call 61; refine (cmp_any _ _ _).mono ?_; rintro e WK ⟨rfl, rfl⟩)
      | (go_at_call 65; refine (or_run (cmpS a b) (cmpI (issOf a) (issOf b)) _ _ ?_ ?_).mono ?_; (exact row_at _ _ _ 0 _ (by simp)); (exact row_at _ _ _ 1 _ (by simp)); rintro e WK ⟨rfl, rfl⟩))
  all_goals
    go_wp2_with fail
    go_ret
    exact ⟨rfl, by first | exact balloc (bdrew (balloc (balloc (bref _) _) _)) _ | exact bdrew (balloc (balloc (balloc (bref _) _) _) _) | (repeat (first | exact bref _ | refine bdrew ?_ | refine bdrewN ?_ _ | refine balloc ?_ _))⟩

set_option maxHeartbeats 1000000 in
theorem Asset_run (w : World) (sb : Nat) (hs : SrcOk w sb) :
    Calls Try.prog 49 #[.pointer (some ⟨sb, 0, none⟩)] w fun e w' => ∃ a : Nat, a ≤ 2 ∧ e = .returned (.agg #[.string (codeOf a), .int .i64 (issOf a)]) ∧ SrcOk w' sb ∧ w.grownBy w' (some sb) := by
  have HS := Lib.hid hs
  have hl := hs.lt
  clear hs
  go_enter Try.func49, Try.ntmps49
  go_wp2_with fail
  refine (Usd_run _).mono ?_
  rintro e w1 ⟨rfl, hb1⟩
  have HB1 := Lib.hid hb1
  have HS1 := Lib.hid ((HS.out.alloc _).below hb1)
  have hb2 : w1.heap[w.heap.size]? = some (.cells #[.string ⟨#[]⟩, .int .i64 0] 43 (0, 0)) := by
    rw [hb1.block w.heap.size (by simp)]
    exact heap_alloc_new _ _
  have HL1 := Lib.hid hb2
  have hz1 : w.heap.size < w1.heap.size := by
    have := hb1.size
    simp at this
    omega
  clear hb1 hb2
  go_wp2_with fail
  refine (Eur_run _).mono ?_
  rintro e w2 ⟨rfl, hb2⟩
  have HB2 := Lib.hid (bstep (balloc (bref w) (.cells #[.string ⟨#[]⟩, .int .i64 0] 43)) HB1.out)
  have HB3 := Lib.hid (bstep HB2.out hb2)
  have HS2 := Lib.hid (HS1.out.below hb2)
  have HL2 := Lib.hid ((hb2.block _ hz1).trans HL1.out)
  have hz2 : w.heap.size < w2.heap.size := by
    have := hb2.size
    omega
  clear hb2
  go_wp2_with fail
  refine (N_run _ sb _ (by omega) (by omega) (HS2.out.alloc _)).mono ?_
  rintro e w3 ⟨r, hr0, hr1, rfl, hs3, hg3⟩
  have hrow : w3.heap[w2.heap.size]? = some (.cells #[.string ⟨#[]⟩, .int .i64 0, .string (codeOf 1), .int .i64 (issOf 1), .string (codeOf 2), .int .i64 (issOf 2)] 43 (0, 0)) := by
    rw [hg3.block w2.heap.size (by simp) (by simp; omega)]
    exact heap_alloc_new _ _
  have hres : w3.heap[w.heap.size]? = some (.cells #[.string ⟨#[]⟩, .int .i64 0] 43 (0, 0)) := by
    rw [hg3.block w.heap.size (by simp; omega) (by simp; omega), Below.heap_alloc _ _ _ hz2]
    exact HL2.out
  have q0 : w3.cell? ⟨w.heap.size, 0, none⟩ = some (.string ⟨#[]⟩) := cell_of_row _ _ 0 _ _ (0, 0) hres
  have q1 : w3.cell? ⟨w.heap.size, 1, none⟩ = some (.int .i64 0) := cell_of_row _ _ 1 _ _ (0, 0) hres
  have f0 : w3.frozen? ⟨w.heap.size, 0, none⟩ = false := by simp [World.frozen?, hres]
  have f1 : w3.frozen? ⟨w.heap.size, 1, none⟩ = false := by simp [World.frozen?, hres]
  have c0 : w3.cell? ⟨w2.heap.size, 0, none⟩ = some (.string ⟨#[]⟩) := cell_of_row _ _ 0 _ _ (0, 0) hrow
  have c1 : w3.cell? ⟨w2.heap.size, 1, none⟩ = some (.int .i64 0) := cell_of_row _ _ 1 _ _ (0, 0) hrow
  have c2 : w3.cell? ⟨w2.heap.size, 2, none⟩ = some (.string (codeOf 1)) := cell_of_row _ _ 2 _ _ (0, 0) hrow
  have c3 : w3.cell? ⟨w2.heap.size, 3, none⟩ = some (.int .i64 (issOf 1)) := cell_of_row _ _ 3 _ _ (0, 0) hrow
  have c4 : w3.cell? ⟨w2.heap.size, 4, none⟩ = some (.string (codeOf 2)) := cell_of_row _ _ 4 _ _ (0, 0) hrow
  have c5 : w3.cell? ⟨w2.heap.size, 5, none⟩ = some (.int .i64 (issOf 2)) := cell_of_row _ _ 5 _ _ (0, 0) hrow
  have hl3 : w.heap.size < w3.heap.size := by
    have := hg3.size
    simp at this
    omega
  have g2 : w.grownBy w3 (some sb) := grown_trans (grown_below (balloc HB3.out _)) hg3
  have HG := Lib.hid g2
  have HS3 := Lib.hid hs3
  have HR := Lib.hid hres
  clear hg3 g2 hs3 hrow hres
  obtain ⟨q, rfl⟩ := Int.eq_ofNat_of_zero_le hr0
  have hq : q < 3 := by omega
  match q, hq with
  | 0, _ =>
    go_wp2_with fail
    refine bodyPost_ret (v := .agg #[.string ⟨#[]⟩, .int .i64 0]) ?_ rfl ⟨0, by omega, rfl, (HS3.out.setCell (by omega) _).setCell (by omega) _, grown_set (grown_set HG.out (Nat.le_refl _) _) (Nat.le_refl _) _⟩
    simp [results, Try.results49, go_sem, HR.out, q0, q1]
  | 1, _ =>
    go_wp2_with fail
    refine bodyPost_ret (v := .agg #[.string (codeOf 1), .int .i64 (issOf 1)]) ?_ rfl ⟨1, by omega, rfl, (HS3.out.setCell (by omega) _).setCell (by omega) _, grown_set (grown_set HG.out (Nat.le_refl _) _) (Nat.le_refl _) _⟩
    simp [results, Try.results49, go_sem, HR.out, q0, q1]
  | 2, _ =>
    go_wp2_with fail
    refine bodyPost_ret (v := .agg #[.string (codeOf 2), .int .i64 (issOf 2)]) ?_ rfl ⟨2, by omega, rfl, (HS3.out.setCell (by omega) _).setCell (by omega) _, grown_set (grown_set HG.out (Nat.le_refl _) _) (Nat.le_refl _) _⟩
    simp [results, Try.results49, go_sem, HR.out, q0, q1]

end Go.Proofs.Ytnnajmoedihkjaa
