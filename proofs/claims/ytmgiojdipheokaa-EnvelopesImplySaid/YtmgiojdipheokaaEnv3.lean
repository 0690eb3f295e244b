/- What a valid envelope says: the contracts of package envelopes. -/
import Derived.Test.YtmgiojdipheokaaEnv2
namespace Go.Proofs.Ytmgiojdipheokaa
set_option linter.unusedVariables false
set_option linter.unusedSimpArgs false
open Go.RowKit

/-- A valid envelope of the source. -/
structure GE (P : Nat → Prop) (T : Tree) (nd sl sq t kd bc pc qc lo hi : Int) (bi pi qi n1 k1 n2 k2 : Nat) (A1 A2 : Option Addr) (w : World) : Prop where
  nlo : 0 ≤ nd
  nhi : nd < 10
  slo : 1 ≤ sl
  shi : sl ≤ 1000000
  qlo : 1 ≤ sq
  qhi : sq ≤ 1000000
  k : kd = 1 ∨ kd = 2 ∨ (kd = 3 ∧ zeroB pc pi = true ∧ zeroB qc qi = true)
  b : bi ≤ 4
  p : pi ≤ 4
  q : qi ≤ 4
  vb : validB bc bi = true
  tat : TAt P 2 w (.int .i64 t) (.slice A1 n1 k1) (.slice A2 n2 k2) T
  fine : Fine 5 2 T
  ok : okE kd bc bi pc pi qc qi lo hi = true
theorem GE.bl {P : Nat → Prop} {T : Tree} {nd sl sq t kd bc pc qc lo hi : Int} {bi pi qi n1 k1 n2 k2 : Nat} {A1 A2 : Option Addr} {w w' : World} (h : GE P T nd sl sq t kd bc pc qc lo hi bi pi qi n1 k1 n2 k2 A1 A2 w) (hb : Below w.heap.size w w') : GE P T nd sl sq t kd bc pc qc lo hi bi pi qi n1 k1 n2 k2 A1 A2 w' :=
  ⟨h.nlo, h.nhi, h.slo, h.shi, h.qlo, h.qhi, h.k, h.b, h.p, h.q, h.vb, h.tat.below hb, h.fine, h.ok⟩
theorem check_ok {P : Nat → Prop} {T : Tree} (nd sl sq t kd bc pc qc lo hi : Int) (bi pi qi n1 k1 n2 k2 : Nat) (A1 A2 : Option Addr) {w : World} (h : GE P T nd sl sq t kd bc pc qc lo hi bi pi qi n1 k1 n2 k2 A1 A2 w) :
    Calls Try.prog 69 #[.agg #[.int .i64 nd, .int .i64 sl, .int .i64 sq, .int .i64 t, .slice A1 n1 k1, .slice A2 n2 k2, .int .i64 kd, .int .i64 bc, .string (valOf bi), .int .i64 pc, .string (valOf pi), .int .i64 qc, .string (valOf qi), .int .i64 lo, .int .i64 hi]] w fun e w' => e = .returned (.tuple #[.agg #[.int .i64 nd, .int .i64 sl, .int .i64 sq, .int .i64 t, .slice A1 n1 k1, .slice A2 n2 k2, .int .i64 kd, .int .i64 bc, .string (valOf bi), .int .i64 pc, .string (valOf pi), .int .i64 qc, .string (valOf qi), .int .i64 lo, .int .i64 hi], .bool true]) ∧ Below w.heap.size w w' := by
  have k := check_run nd sl sq t kd bc pc qc lo hi bi pi qi n1 k1 n2 k2 A1 A2 w h.nlo h.nhi h.slo h.shi h.qlo h.qhi h.k h.b h.p h.q h.vb P T h.tat h.fine
  rw [h.ok] at k
  exact k

/-- Block r is one row of cells; what is older than g is as in w. -/
structure EW (w : World) (g r : Nat) (cs : Array Value) (ty : Nat) (W : World) : Prop where
  e : W.heap[r]? = some (.cells cs ty (0, 0))
  bel : Below g w W
  le : g ≤ r
theorem EW.bl {w W W' : World} {g r : Nat} {cs : Array Value} {ty : Nat} (h : EW w g r cs ty W) (hb : Below W.heap.size W W') : EW w g r cs ty W' :=
  ⟨(hb.block _ (heapLt h.e)).trans h.e, h.bel.trans (hb.mono (Nat.le_of_lt (Nat.lt_of_le_of_lt h.le (heapLt h.e)))), h.le⟩

def vpB (kd bc : Int) (bi : Nat) (f : Int) (k : Nat) : Bool := !zeroB f k && (if decide (kd = 1) then covB bc bi f k else decide (bi = k))
def apB (kd : Int) (bi : Nat) (pc : Int) (pi : Nat) (qc : Int) (qi : Nat) (f : Int) (k : Nat) : Bool := !zeroB f k && (if decide (kd = 1) then prepB pc pi qc qi f k else if decide (kd = 2) then covB pc pi f k else decide (bi = k))
def spB (bi : Nat) (lo : Int) (v : Nat) (l h : Int) : Bool := decide (bi = v) && (!decide (lo = 0) && (decide (lo ≤ l) && (decide (1 ≤ l) && decide (l ≤ h))))
def vcB (kd : Int) (bi : Nat) (lo hi : Int) (v : Nat) (l h : Int) : Bool := spB bi lo v l h && (!decide (kd = 1) || decide (h ≤ hi))
def acB (kd : Int) (bi : Nat) (lo hi : Int) (v : Nat) (l h : Int) : Bool := spB bi lo v l h && (decide (kd = 3) || (decide (kd = 2) && decide (h ≤ hi)))
def ctB (kd bc : Int) : Int := if decide (kd = 3) then 1000000 else bc


set_option maxRecDepth 100000 in
set_option maxHeartbeats 4000000 in
theorem counter_run {P : Nat → Prop} {T : Tree} (nd sl sq t kd bc pc qc lo hi : Int) (bi pi qi n1 k1 n2 k2 : Nat) (A1 A2 : Option Addr)  (w : World) (hE : GE P T nd sl sq t kd bc pc qc lo hi bi pi qi n1 k1 n2 k2 A1 A2 w) :
    Calls Try.prog 32 #[.agg #[.int .i64 nd, .int .i64 sl, .int .i64 sq, .int .i64 t, .slice A1 n1 k1, .slice A2 n2 k2, .int .i64 kd, .int .i64 bc, .string (valOf bi), .int .i64 pc, .string (valOf pi), .int .i64 qc, .string (valOf qi), .int .i64 lo, .int .i64 hi]] w fun e w' => e = .returned (.int .i64 (ctB kd bc)) ∧ Below w.heap.size w w' := by
  obtain ⟨R, hR⟩ : ∃ R, ctB kd bc = R := ⟨_, rfl⟩
  rw [hR]
  have HR := Lib.hid hR
  have hb := hE.b
  have hp := hE.p
  have hq := hE.q
  have HKD := Lib.hid hE.k
  clear hR
  have HE := Lib.hid (hE.bl (w' := (w.alloc (.cells #[.int .i64 nd, .int .i64 sl, .int .i64 sq, .int .i64 t, .slice A1 n1 k1, .slice A2 n2 k2, .int .i64 kd, .int .i64 bc, .string (valOf bi), .int .i64 pc, .string (valOf pi), .int .i64 qc, .string (valOf qi), .int .i64 lo, .int .i64 hi] 44))) (balloc (bref w) _))
  have HB0 := Lib.hid (show Below w.heap.size w (w.alloc (.cells #[.int .i64 nd, .int .i64 sl, .int .i64 sq, .int .i64 t, .slice A1 n1 k1, .slice A2 n2 k2, .int .i64 kd, .int .i64 bc, .string (valOf bi), .int .i64 pc, .string (valOf pi), .int .i64 qc, .string (valOf qi), .int .i64 lo, .int .i64 hi] 44)) from balloc (bref w) _)
  have HX0 := Lib.hid (show (w.alloc (.cells #[.int .i64 nd, .int .i64 sl, .int .i64 sq, .int .i64 t, .slice A1 n1 k1, .slice A2 n2 k2, .int .i64 kd, .int .i64 bc, .string (valOf bi), .int .i64 pc, .string (valOf pi), .int .i64 qc, .string (valOf qi), .int .i64 lo, .int .i64 hi] 44)).heap[w.heap.size]? = some (.cells #[.int .i64 nd, .int .i64 sl, .int .i64 sq, .int .i64 t, .slice A1 n1 k1, .slice A2 n2 k2, .int .i64 kd, .int .i64 bc, .string (valOf bi), .int .i64 pc, .string (valOf pi), .int .i64 qc, .string (valOf qi), .int .i64 lo, .int .i64 hi] 44 (0, 0)) from heap_alloc_new _ _)
  clear hE
  go_enter Try.func32, Try.ntmps32
  go_upto_region 1 with fail
  generalize (w.alloc (.cells #[.int .i64 nd, .int .i64 sl, .int .i64 sq, .int .i64 t, .slice A1 n1 k1, .slice A2 n2 k2, .int .i64 kd, .int .i64 bc, .string (valOf bi), .int .i64 pc, .string (valOf pi), .int .i64 qc, .string (valOf qi), .int .i64 lo, .int .i64 hi] 44)) = W0 at *
  generalize hg : w.heap.size = g at *
  have HG := Lib.hid hg
  clear hg
  have x0 : W0.cell? ⟨g, 0, none⟩ = some (.int .i64 nd) := cell_of_row _ _ 0 _ _ (0, 0) HX0.out
  have x1 : W0.cell? ⟨g, 1, none⟩ = some (.int .i64 sl) := cell_of_row _ _ 1 _ _ (0, 0) HX0.out
  have x2 : W0.cell? ⟨g, 2, none⟩ = some (.int .i64 sq) := cell_of_row _ _ 2 _ _ (0, 0) HX0.out
  have x3 : W0.cell? ⟨g, 3, none⟩ = some (.int .i64 t) := cell_of_row _ _ 3 _ _ (0, 0) HX0.out
  have x4 : W0.cell? ⟨g, 4, none⟩ = some (.slice A1 n1 k1) := cell_of_row _ _ 4 _ _ (0, 0) HX0.out
  have x5 : W0.cell? ⟨g, 5, none⟩ = some (.slice A2 n2 k2) := cell_of_row _ _ 5 _ _ (0, 0) HX0.out
  have x6 : W0.cell? ⟨g, 6, none⟩ = some (.int .i64 kd) := cell_of_row _ _ 6 _ _ (0, 0) HX0.out
  have x7 : W0.cell? ⟨g, 7, none⟩ = some (.int .i64 bc) := cell_of_row _ _ 7 _ _ (0, 0) HX0.out
  have x8 : W0.cell? ⟨g, 8, none⟩ = some (.string (valOf bi)) := cell_of_row _ _ 8 _ _ (0, 0) HX0.out
  have x9 : W0.cell? ⟨g, 9, none⟩ = some (.int .i64 pc) := cell_of_row _ _ 9 _ _ (0, 0) HX0.out
  have x10 : W0.cell? ⟨g, 10, none⟩ = some (.string (valOf pi)) := cell_of_row _ _ 10 _ _ (0, 0) HX0.out
  have x11 : W0.cell? ⟨g, 11, none⟩ = some (.int .i64 qc) := cell_of_row _ _ 11 _ _ (0, 0) HX0.out
  have x12 : W0.cell? ⟨g, 12, none⟩ = some (.string (valOf qi)) := cell_of_row _ _ 12 _ _ (0, 0) HX0.out
  have x13 : W0.cell? ⟨g, 13, none⟩ = some (.int .i64 lo) := cell_of_row _ _ 13 _ _ (0, 0) HX0.out
  have x14 : W0.cell? ⟨g, 14, none⟩ = some (.int .i64 hi) := cell_of_row _ _ 14 _ _ (0, 0) HX0.out
  go_wp2_with fail
  refine (check_ok _ _ _ _ _ _ _ _ _ _ _ _ _ _ _ _ _ _ _ HE.out).mono ?_
  rintro e W1 ⟨rfl, hb⟩
  have J2 := Lib.hid (show EW w g W1.heap.size #[.int .i64 nd, .int .i64 sl, .int .i64 sq, .int .i64 t, .slice A1 n1 k1, .slice A2 n2 k2, .int .i64 kd, .int .i64 bc, .string (valOf bi), .int .i64 pc, .string (valOf pi), .int .i64 qc, .string (valOf qi), .int .i64 lo, .int .i64 hi] 91 (W1.alloc (.cells #[.int .i64 nd, .int .i64 sl, .int .i64 sq, .int .i64 t, .slice A1 n1 k1, .slice A2 n2 k2, .int .i64 kd, .int .i64 bc, .string (valOf bi), .int .i64 pc, .string (valOf pi), .int .i64 qc, .string (valOf qi), .int .i64 lo, .int .i64 hi] 91)) from ⟨heap_alloc_new _ _, (HB0.out.trans (hb.mono (Nat.le_of_lt (heapLt HX0.out)))).trans ((balloc (bref W1) _).mono (Nat.le_trans (Nat.le_of_lt (heapLt HX0.out)) hb.size)), Nat.le_trans (Nat.le_of_lt (heapLt HX0.out)) hb.size⟩)
  clear x0 x1 x2 x3 x4 x5 x6 x7 x8 x9 x10 x11 x12 x13 x14 hb HX0 HB0
  go_upto_region 2 with fail
  generalize (W1.alloc (.cells #[.int .i64 nd, .int .i64 sl, .int .i64 sq, .int .i64 t, .slice A1 n1 k1, .slice A2 n2 k2, .int .i64 kd, .int .i64 bc, .string (valOf bi), .int .i64 pc, .string (valOf pi), .int .i64 qc, .string (valOf qi), .int .i64 lo, .int .i64 hi] 91)) = W2 at *
  generalize W1.heap.size = r at *
  by_cases h1 : kd = 3
  · --h1 t
    have h1D := Lib.hid (show decide (kd = 3) = true by simpa using h1)
    have h1t0 : (kd == 3) = true := by first | (rw [decide_eq_false_iff_not]; omega) | (rw [decide_eq_true_iff]; omega) | (rw [bne_iff_ne]; omega) | (rw [beq_iff_eq]; omega) | (rw [beq_eq_false_iff_ne]; omega) | (rw [bne_eq_false_iff_eq]; omega)
    clear h1
    obtain rfl : 1000000 = R := by rw [← HR.out]; unfold ctB; symm; first | (simp only [h1D.out, Bool.false_eq_true, if_false, if_true, Bool.not_true, Bool.not_false, Bool.and_true, Bool.true_and, Bool.and_false, Bool.false_and, Bool.or_false, Bool.or_true, Bool.false_or, Bool.true_or]; done) | (simp [h1D.out]; done)
    clear HR
    have x6 : W2.cell? ⟨r, 6, none⟩ = some (.int .i64 kd) := cell_of_row _ _ 6 _ _ (0, 0) J2.out.e
    go_wp2_with fail
    go_ret
    exact ⟨rfl, by rw [HG.out]; exact J2.out.bel⟩
  · --h1 f
    have h1D := Lib.hid (show decide (kd = 3) = false by simpa using h1)
    have h1f0 : (kd == 3) = false := by first | (rw [decide_eq_false_iff_not]; omega) | (rw [decide_eq_true_iff]; omega) | (rw [bne_iff_ne]; omega) | (rw [beq_iff_eq]; omega) | (rw [beq_eq_false_iff_ne]; omega) | (rw [bne_eq_false_iff_eq]; omega)
    clear h1
    obtain rfl : bc = R := by rw [← HR.out]; unfold ctB; symm; first | (simp only [h1D.out, Bool.false_eq_true, if_false, if_true, Bool.not_true, Bool.not_false, Bool.and_true, Bool.true_and, Bool.and_false, Bool.false_and, Bool.or_false, Bool.or_true, Bool.false_or, Bool.true_or]; done) | (simp [h1D.out]; done)
    clear HR
    have x6 : W2.cell? ⟨r, 6, none⟩ = some (.int .i64 kd) := cell_of_row _ _ 6 _ _ (0, 0) J2.out.e
    have x7 : W2.cell? ⟨r, 7, none⟩ = some (.int .i64 bc) := cell_of_row _ _ 7 _ _ (0, 0) J2.out.e
    go_wp2_with fail
    go_ret
    exact ⟨rfl, by rw [HG.out]; exact J2.out.bel⟩

set_option maxRecDepth 100000 in
set_option maxHeartbeats 4000000 in
theorem votesPrep_run {P : Nat → Prop} {T : Tree} (nd sl sq t kd bc pc qc lo hi : Int) (bi pi qi n1 k1 n2 k2 : Nat) (A1 A2 : Option Addr) (f : Int) (k : Nat) (hk4 : k ≤ 4) (w : World) (hE : GE P T nd sl sq t kd bc pc qc lo hi bi pi qi n1 k1 n2 k2 A1 A2 w) :
    Calls Try.prog 31 #[.agg #[.int .i64 nd, .int .i64 sl, .int .i64 sq, .int .i64 t, .slice A1 n1 k1, .slice A2 n2 k2, .int .i64 kd, .int .i64 bc, .string (valOf bi), .int .i64 pc, .string (valOf pi), .int .i64 qc, .string (valOf qi), .int .i64 lo, .int .i64 hi], .agg #[.int .i64 f, .string (valOf k)]] w fun e w' => e = .returned (.bool (vpB kd bc bi f k)) ∧ Below w.heap.size w w' := by
  obtain ⟨R, hR⟩ : ∃ R, vpB kd bc bi f k = R := ⟨_, rfl⟩
  rw [hR]
  have HR := Lib.hid hR
  have hb := hE.b
  have hp := hE.p
  have hq := hE.q
  have HKD := Lib.hid hE.k
  clear hR
  have HE := Lib.hid (hE.bl (w' := ((w.alloc (.cells #[.int .i64 nd, .int .i64 sl, .int .i64 sq, .int .i64 t, .slice A1 n1 k1, .slice A2 n2 k2, .int .i64 kd, .int .i64 bc, .string (valOf bi), .int .i64 pc, .string (valOf pi), .int .i64 qc, .string (valOf qi), .int .i64 lo, .int .i64 hi] 44)).alloc (.cells #[.int .i64 f, .string (valOf k)] 26))) (balloc (balloc (bref w) _) _))
  have HB0 := Lib.hid (show Below w.heap.size w ((w.alloc (.cells #[.int .i64 nd, .int .i64 sl, .int .i64 sq, .int .i64 t, .slice A1 n1 k1, .slice A2 n2 k2, .int .i64 kd, .int .i64 bc, .string (valOf bi), .int .i64 pc, .string (valOf pi), .int .i64 qc, .string (valOf qi), .int .i64 lo, .int .i64 hi] 44)).alloc (.cells #[.int .i64 f, .string (valOf k)] 26)) from balloc (balloc (bref w) _) _)
  have HX0 := Lib.hid (show ((w.alloc (.cells #[.int .i64 nd, .int .i64 sl, .int .i64 sq, .int .i64 t, .slice A1 n1 k1, .slice A2 n2 k2, .int .i64 kd, .int .i64 bc, .string (valOf bi), .int .i64 pc, .string (valOf pi), .int .i64 qc, .string (valOf qi), .int .i64 lo, .int .i64 hi] 44)).alloc (.cells #[.int .i64 f, .string (valOf k)] 26)).heap[w.heap.size]? = some (.cells #[.int .i64 nd, .int .i64 sl, .int .i64 sq, .int .i64 t, .slice A1 n1 k1, .slice A2 n2 k2, .int .i64 kd, .int .i64 bc, .string (valOf bi), .int .i64 pc, .string (valOf pi), .int .i64 qc, .string (valOf qi), .int .i64 lo, .int .i64 hi] 44 (0, 0)) from (Below.heap_alloc _ _ _ (by simp)).trans (heap_alloc_new _ _))
  have HY0 := Lib.hid (show BalAt ((w.alloc (.cells #[.int .i64 nd, .int .i64 sl, .int .i64 sq, .int .i64 t, .slice A1 n1 k1, .slice A2 n2 k2, .int .i64 kd, .int .i64 bc, .string (valOf bi), .int .i64 pc, .string (valOf pi), .int .i64 qc, .string (valOf qi), .int .i64 lo, .int .i64 hi] 44)).alloc (.cells #[.int .i64 f, .string (valOf k)] 26)) (w.heap.size + 1) f k by have := BalAt.new (w.alloc (.cells #[.int .i64 nd, .int .i64 sl, .int .i64 sq, .int .i64 t, .slice A1 n1 k1, .slice A2 n2 k2, .int .i64 kd, .int .i64 bc, .string (valOf bi), .int .i64 pc, .string (valOf pi), .int .i64 qc, .string (valOf qi), .int .i64 lo, .int .i64 hi] 44)) f k; rw [World.size_alloc] at this; exact this)
  clear hE
  go_enter Try.func31, Try.ntmps31
  go_upto_region 1 with fail
  generalize ((w.alloc (.cells #[.int .i64 nd, .int .i64 sl, .int .i64 sq, .int .i64 t, .slice A1 n1 k1, .slice A2 n2 k2, .int .i64 kd, .int .i64 bc, .string (valOf bi), .int .i64 pc, .string (valOf pi), .int .i64 qc, .string (valOf qi), .int .i64 lo, .int .i64 hi] 44)).alloc (.cells #[.int .i64 f, .string (valOf k)] 26)) = W0 at *
  generalize hg : w.heap.size = g at *
  have HG := Lib.hid hg
  clear hg
  have x0 : W0.cell? ⟨g, 0, none⟩ = some (.int .i64 nd) := cell_of_row _ _ 0 _ _ (0, 0) HX0.out
  have x1 : W0.cell? ⟨g, 1, none⟩ = some (.int .i64 sl) := cell_of_row _ _ 1 _ _ (0, 0) HX0.out
  have x2 : W0.cell? ⟨g, 2, none⟩ = some (.int .i64 sq) := cell_of_row _ _ 2 _ _ (0, 0) HX0.out
  have x3 : W0.cell? ⟨g, 3, none⟩ = some (.int .i64 t) := cell_of_row _ _ 3 _ _ (0, 0) HX0.out
  have x4 : W0.cell? ⟨g, 4, none⟩ = some (.slice A1 n1 k1) := cell_of_row _ _ 4 _ _ (0, 0) HX0.out
  have x5 : W0.cell? ⟨g, 5, none⟩ = some (.slice A2 n2 k2) := cell_of_row _ _ 5 _ _ (0, 0) HX0.out
  have x6 : W0.cell? ⟨g, 6, none⟩ = some (.int .i64 kd) := cell_of_row _ _ 6 _ _ (0, 0) HX0.out
  have x7 : W0.cell? ⟨g, 7, none⟩ = some (.int .i64 bc) := cell_of_row _ _ 7 _ _ (0, 0) HX0.out
  have x8 : W0.cell? ⟨g, 8, none⟩ = some (.string (valOf bi)) := cell_of_row _ _ 8 _ _ (0, 0) HX0.out
  have x9 : W0.cell? ⟨g, 9, none⟩ = some (.int .i64 pc) := cell_of_row _ _ 9 _ _ (0, 0) HX0.out
  have x10 : W0.cell? ⟨g, 10, none⟩ = some (.string (valOf pi)) := cell_of_row _ _ 10 _ _ (0, 0) HX0.out
  have x11 : W0.cell? ⟨g, 11, none⟩ = some (.int .i64 qc) := cell_of_row _ _ 11 _ _ (0, 0) HX0.out
  have x12 : W0.cell? ⟨g, 12, none⟩ = some (.string (valOf qi)) := cell_of_row _ _ 12 _ _ (0, 0) HX0.out
  have x13 : W0.cell? ⟨g, 13, none⟩ = some (.int .i64 lo) := cell_of_row _ _ 13 _ _ (0, 0) HX0.out
  have x14 : W0.cell? ⟨g, 14, none⟩ = some (.int .i64 hi) := cell_of_row _ _ 14 _ _ (0, 0) HX0.out
  go_wp2_with fail
  refine (check_ok _ _ _ _ _ _ _ _ _ _ _ _ _ _ _ _ _ _ _ HE.out).mono ?_
  rintro e W1 ⟨rfl, hb⟩
  have J2 := Lib.hid (show EW w g W1.heap.size #[.int .i64 nd, .int .i64 sl, .int .i64 sq, .int .i64 t, .slice A1 n1 k1, .slice A2 n2 k2, .int .i64 kd, .int .i64 bc, .string (valOf bi), .int .i64 pc, .string (valOf pi), .int .i64 qc, .string (valOf qi), .int .i64 lo, .int .i64 hi] 91 (W1.alloc (.cells #[.int .i64 nd, .int .i64 sl, .int .i64 sq, .int .i64 t, .slice A1 n1 k1, .slice A2 n2 k2, .int .i64 kd, .int .i64 bc, .string (valOf bi), .int .i64 pc, .string (valOf pi), .int .i64 qc, .string (valOf qi), .int .i64 lo, .int .i64 hi] 91)) from ⟨heap_alloc_new _ _, (HB0.out.trans (hb.mono (Nat.le_of_lt (heapLt HX0.out)))).trans ((balloc (bref W1) _).mono (Nat.le_trans (Nat.le_of_lt (heapLt HX0.out)) hb.size)), Nat.le_trans (Nat.le_of_lt (heapLt HX0.out)) hb.size⟩)
  have HXb := Lib.hid ((HY0.out.below hb).alloc (.cells #[.int .i64 nd, .int .i64 sl, .int .i64 sq, .int .i64 t, .slice A1 n1 k1, .slice A2 n2 k2, .int .i64 kd, .int .i64 bc, .string (valOf bi), .int .i64 pc, .string (valOf pi), .int .i64 qc, .string (valOf qi), .int .i64 lo, .int .i64 hi] 91))
  clear x0 x1 x2 x3 x4 x5 x6 x7 x8 x9 x10 x11 x12 x13 x14 hb HX0 HB0 HY0
  go_upto_region 2 with fail
  generalize (W1.alloc (.cells #[.int .i64 nd, .int .i64 sl, .int .i64 sq, .int .i64 t, .slice A1 n1 k1, .slice A2 n2 k2, .int .i64 kd, .int .i64 bc, .string (valOf bi), .int .i64 pc, .string (valOf pi), .int .i64 qc, .string (valOf qi), .int .i64 lo, .int .i64 hi] 91)) = W2 at *
  generalize W1.heap.size = r at *
  obtain ⟨yb0, yb1⟩ := HXb.out.cs
  go_wp2_with fail
  refine (zero_run _ _ _ hk4).mono ?_
  rintro e W1 ⟨rfl, hb⟩
  have J1 := Lib.hid (J2.out.bl hb)
  have HXb_1 := Lib.hid (HXb.out.below hb)
  clear yb0 yb1
  clear hb
  cases z1 : zeroB f k
  · --z1 false
    by_cases h1 : kd = 1
    · --h1 t
      have h1D := Lib.hid (show decide (kd = 1) = true by simpa using h1)
      have h1t0 : (kd == 1) = true := by first | (rw [decide_eq_false_iff_not]; omega) | (rw [decide_eq_true_iff]; omega) | (rw [bne_iff_ne]; omega) | (rw [beq_iff_eq]; omega) | (rw [beq_eq_false_iff_ne]; omega) | (rw [bne_eq_false_iff_eq]; omega)
      clear h1
      have x6 : W1.cell? ⟨r, 6, none⟩ = some (.int .i64 kd) := cell_of_row _ _ 6 _ _ (0, 0) J1.out.e
      have x7 : W1.cell? ⟨r, 7, none⟩ = some (.int .i64 bc) := cell_of_row _ _ 7 _ _ (0, 0) J1.out.e
      have x8 : W1.cell? ⟨r, 8, none⟩ = some (.string (valOf bi)) := cell_of_row _ _ 8 _ _ (0, 0) J1.out.e
      obtain ⟨yb0, yb1⟩ := HXb_1.out.cs
      go_wp2_with fail
      refine (covers_run _ _ _ _ _ hb hk4).mono ?_
      rintro e W2 ⟨rfl, hb⟩
      have J2 := Lib.hid (J1.out.bl hb)
      have HXb_2 := Lib.hid (HXb_1.out.below hb)
      clear x6 x7 x8 yb0 yb1
      clear hb
      cases z2 : covB bc bi f k
      · --z2 false
        obtain rfl : false = R := by rw [← HR.out]; unfold vpB; symm; first | (simp only [z1, h1D.out, z2, Bool.false_eq_true, if_false, if_true, Bool.not_true, Bool.not_false, Bool.and_true, Bool.true_and, Bool.and_false, Bool.false_and, Bool.or_false, Bool.or_true, Bool.false_or, Bool.true_or]; done) | (simp [z1, h1D.out, z2]; done)
        clear HR
        go_wp2_with fail
        go_ret
        exact ⟨rfl, by rw [HG.out]; exact J2.out.bel⟩
      · --z2 true
        obtain rfl : true = R := by rw [← HR.out]; unfold vpB; symm; first | (simp only [z1, h1D.out, z2, Bool.false_eq_true, if_false, if_true, Bool.not_true, Bool.not_false, Bool.and_true, Bool.true_and, Bool.and_false, Bool.false_and, Bool.or_false, Bool.or_true, Bool.false_or, Bool.true_or]; done) | (simp [z1, h1D.out, z2]; done)
        clear HR
        go_wp2_with fail
        go_ret
        exact ⟨rfl, by rw [HG.out]; exact J2.out.bel⟩
    · --h1 f
      have h1D := Lib.hid (show decide (kd = 1) = false by simpa using h1)
      have h1f0 : (kd == 1) = false := by first | (rw [decide_eq_false_iff_not]; omega) | (rw [decide_eq_true_iff]; omega) | (rw [bne_iff_ne]; omega) | (rw [beq_iff_eq]; omega) | (rw [beq_eq_false_iff_ne]; omega) | (rw [bne_eq_false_iff_eq]; omega)
      clear h1
      have x6 : W1.cell? ⟨r, 6, none⟩ = some (.int .i64 kd) := cell_of_row _ _ 6 _ _ (0, 0) J1.out.e
      have x7 : W1.cell? ⟨r, 7, none⟩ = some (.int .i64 bc) := cell_of_row _ _ 7 _ _ (0, 0) J1.out.e
      have x8 : W1.cell? ⟨r, 8, none⟩ = some (.string (valOf bi)) := cell_of_row _ _ 8 _ _ (0, 0) J1.out.e
      obtain ⟨yb0, yb1⟩ := HXb_1.out.cs
      go_wp2_with fail
      refine (compat_run _ _ _ _ _ hb hk4).mono ?_
      rintro e W3 ⟨rfl, hb⟩
      have J3 := Lib.hid (J1.out.bl hb)
      have HXb_3 := Lib.hid (HXb_1.out.below hb)
      clear x6 x7 x8 yb0 yb1
      clear hb
      cases z2 : decide (bi = k)
      · --z2 false
        obtain rfl : false = R := by rw [← HR.out]; unfold vpB; symm; first | (simp only [z1, h1D.out, z2, Bool.false_eq_true, if_false, if_true, Bool.not_true, Bool.not_false, Bool.and_true, Bool.true_and, Bool.and_false, Bool.false_and, Bool.or_false, Bool.or_true, Bool.false_or, Bool.true_or]; done) | (simp [z1, h1D.out, z2]; done)
        clear HR
        go_wp2_with fail
        go_ret
        exact ⟨rfl, by rw [HG.out]; exact J3.out.bel⟩
      · --z2 true
        obtain rfl : true = R := by rw [← HR.out]; unfold vpB; symm; first | (simp only [z1, h1D.out, z2, Bool.false_eq_true, if_false, if_true, Bool.not_true, Bool.not_false, Bool.and_true, Bool.true_and, Bool.and_false, Bool.false_and, Bool.or_false, Bool.or_true, Bool.false_or, Bool.true_or]; done) | (simp [z1, h1D.out, z2]; done)
        clear HR
        go_wp2_with fail
        go_ret
        exact ⟨rfl, by rw [HG.out]; exact J3.out.bel⟩
  · --z1 true
    obtain rfl : false = R := by rw [← HR.out]; unfold vpB; symm; first | (simp only [z1, Bool.false_eq_true, if_false, if_true, Bool.not_true, Bool.not_false, Bool.and_true, Bool.true_and, Bool.and_false, Bool.false_and, Bool.or_false, Bool.or_true, Bool.false_or, Bool.true_or]; done) | (simp [z1]; done)
    clear HR
    go_wp2_with fail
    go_ret
    exact ⟨rfl, by rw [HG.out]; exact J1.out.bel⟩

set_option maxRecDepth 100000 in
set_option maxHeartbeats 4000000 in
theorem acceptsPrep_run {P : Nat → Prop} {T : Tree} (nd sl sq t kd bc pc qc lo hi : Int) (bi pi qi n1 k1 n2 k2 : Nat) (A1 A2 : Option Addr) (f : Int) (k : Nat) (hk4 : k ≤ 4) (w : World) (hE : GE P T nd sl sq t kd bc pc qc lo hi bi pi qi n1 k1 n2 k2 A1 A2 w) :
    Calls Try.prog 29 #[.agg #[.int .i64 nd, .int .i64 sl, .int .i64 sq, .int .i64 t, .slice A1 n1 k1, .slice A2 n2 k2, .int .i64 kd, .int .i64 bc, .string (valOf bi), .int .i64 pc, .string (valOf pi), .int .i64 qc, .string (valOf qi), .int .i64 lo, .int .i64 hi], .agg #[.int .i64 f, .string (valOf k)]] w fun e w' => e = .returned (.bool (apB kd bi pc pi qc qi f k)) ∧ Below w.heap.size w w' := by
  obtain ⟨R, hR⟩ : ∃ R, apB kd bi pc pi qc qi f k = R := ⟨_, rfl⟩
  rw [hR]
  have HR := Lib.hid hR
  have hb := hE.b
  have hp := hE.p
  have hq := hE.q
  have HKD := Lib.hid hE.k
  clear hR
  have HE := Lib.hid (hE.bl (w' := ((w.alloc (.cells #[.int .i64 nd, .int .i64 sl, .int .i64 sq, .int .i64 t, .slice A1 n1 k1, .slice A2 n2 k2, .int .i64 kd, .int .i64 bc, .string (valOf bi), .int .i64 pc, .string (valOf pi), .int .i64 qc, .string (valOf qi), .int .i64 lo, .int .i64 hi] 44)).alloc (.cells #[.int .i64 f, .string (valOf k)] 26))) (balloc (balloc (bref w) _) _))
  have HB0 := Lib.hid (show Below w.heap.size w ((w.alloc (.cells #[.int .i64 nd, .int .i64 sl, .int .i64 sq, .int .i64 t, .slice A1 n1 k1, .slice A2 n2 k2, .int .i64 kd, .int .i64 bc, .string (valOf bi), .int .i64 pc, .string (valOf pi), .int .i64 qc, .string (valOf qi), .int .i64 lo, .int .i64 hi] 44)).alloc (.cells #[.int .i64 f, .string (valOf k)] 26)) from balloc (balloc (bref w) _) _)
  have HX0 := Lib.hid (show ((w.alloc (.cells #[.int .i64 nd, .int .i64 sl, .int .i64 sq, .int .i64 t, .slice A1 n1 k1, .slice A2 n2 k2, .int .i64 kd, .int .i64 bc, .string (valOf bi), .int .i64 pc, .string (valOf pi), .int .i64 qc, .string (valOf qi), .int .i64 lo, .int .i64 hi] 44)).alloc (.cells #[.int .i64 f, .string (valOf k)] 26)).heap[w.heap.size]? = some (.cells #[.int .i64 nd, .int .i64 sl, .int .i64 sq, .int .i64 t, .slice A1 n1 k1, .slice A2 n2 k2, .int .i64 kd, .int .i64 bc, .string (valOf bi), .int .i64 pc, .string (valOf pi), .int .i64 qc, .string (valOf qi), .int .i64 lo, .int .i64 hi] 44 (0, 0)) from (Below.heap_alloc _ _ _ (by simp)).trans (heap_alloc_new _ _))
  have HY0 := Lib.hid (show BalAt ((w.alloc (.cells #[.int .i64 nd, .int .i64 sl, .int .i64 sq, .int .i64 t, .slice A1 n1 k1, .slice A2 n2 k2, .int .i64 kd, .int .i64 bc, .string (valOf bi), .int .i64 pc, .string (valOf pi), .int .i64 qc, .string (valOf qi), .int .i64 lo, .int .i64 hi] 44)).alloc (.cells #[.int .i64 f, .string (valOf k)] 26)) (w.heap.size + 1) f k by have := BalAt.new (w.alloc (.cells #[.int .i64 nd, .int .i64 sl, .int .i64 sq, .int .i64 t, .slice A1 n1 k1, .slice A2 n2 k2, .int .i64 kd, .int .i64 bc, .string (valOf bi), .int .i64 pc, .string (valOf pi), .int .i64 qc, .string (valOf qi), .int .i64 lo, .int .i64 hi] 44)) f k; rw [World.size_alloc] at this; exact this)
  clear hE
  go_enter Try.func29, Try.ntmps29
  go_upto_region 1 with fail
  generalize ((w.alloc (.cells #[.int .i64 nd, .int .i64 sl, .int .i64 sq, .int .i64 t, .slice A1 n1 k1, .slice A2 n2 k2, .int .i64 kd, .int .i64 bc, .string (valOf bi), .int .i64 pc, .string (valOf pi), .int .i64 qc, .string (valOf qi), .int .i64 lo, .int .i64 hi] 44)).alloc (.cells #[.int .i64 f, .string (valOf k)] 26)) = W0 at *
  generalize hg : w.heap.size = g at *
  have HG := Lib.hid hg
  clear hg
  have x0 : W0.cell? ⟨g, 0, none⟩ = some (.int .i64 nd) := cell_of_row _ _ 0 _ _ (0, 0) HX0.out
  have x1 : W0.cell? ⟨g, 1, none⟩ = some (.int .i64 sl) := cell_of_row _ _ 1 _ _ (0, 0) HX0.out
  have x2 : W0.cell? ⟨g, 2, none⟩ = some (.int .i64 sq) := cell_of_row _ _ 2 _ _ (0, 0) HX0.out
  have x3 : W0.cell? ⟨g, 3, none⟩ = some (.int .i64 t) := cell_of_row _ _ 3 _ _ (0, 0) HX0.out
  have x4 : W0.cell? ⟨g, 4, none⟩ = some (.slice A1 n1 k1) := cell_of_row _ _ 4 _ _ (0, 0) HX0.out
  have x5 : W0.cell? ⟨g, 5, none⟩ = some (.slice A2 n2 k2) := cell_of_row _ _ 5 _ _ (0, 0) HX0.out
  have x6 : W0.cell? ⟨g, 6, none⟩ = some (.int .i64 kd) := cell_of_row _ _ 6 _ _ (0, 0) HX0.out
  have x7 : W0.cell? ⟨g, 7, none⟩ = some (.int .i64 bc) := cell_of_row _ _ 7 _ _ (0, 0) HX0.out
  have x8 : W0.cell? ⟨g, 8, none⟩ = some (.string (valOf bi)) := cell_of_row _ _ 8 _ _ (0, 0) HX0.out
  have x9 : W0.cell? ⟨g, 9, none⟩ = some (.int .i64 pc) := cell_of_row _ _ 9 _ _ (0, 0) HX0.out
  have x10 : W0.cell? ⟨g, 10, none⟩ = some (.string (valOf pi)) := cell_of_row _ _ 10 _ _ (0, 0) HX0.out
  have x11 : W0.cell? ⟨g, 11, none⟩ = some (.int .i64 qc) := cell_of_row _ _ 11 _ _ (0, 0) HX0.out
  have x12 : W0.cell? ⟨g, 12, none⟩ = some (.string (valOf qi)) := cell_of_row _ _ 12 _ _ (0, 0) HX0.out
  have x13 : W0.cell? ⟨g, 13, none⟩ = some (.int .i64 lo) := cell_of_row _ _ 13 _ _ (0, 0) HX0.out
  have x14 : W0.cell? ⟨g, 14, none⟩ = some (.int .i64 hi) := cell_of_row _ _ 14 _ _ (0, 0) HX0.out
  go_wp2_with fail
  refine (check_ok _ _ _ _ _ _ _ _ _ _ _ _ _ _ _ _ _ _ _ HE.out).mono ?_
  rintro e W1 ⟨rfl, hb⟩
  have J2 := Lib.hid (show EW w g W1.heap.size #[.int .i64 nd, .int .i64 sl, .int .i64 sq, .int .i64 t, .slice A1 n1 k1, .slice A2 n2 k2, .int .i64 kd, .int .i64 bc, .string (valOf bi), .int .i64 pc, .string (valOf pi), .int .i64 qc, .string (valOf qi), .int .i64 lo, .int .i64 hi] 91 (W1.alloc (.cells #[.int .i64 nd, .int .i64 sl, .int .i64 sq, .int .i64 t, .slice A1 n1 k1, .slice A2 n2 k2, .int .i64 kd, .int .i64 bc, .string (valOf bi), .int .i64 pc, .string (valOf pi), .int .i64 qc, .string (valOf qi), .int .i64 lo, .int .i64 hi] 91)) from ⟨heap_alloc_new _ _, (HB0.out.trans (hb.mono (Nat.le_of_lt (heapLt HX0.out)))).trans ((balloc (bref W1) _).mono (Nat.le_trans (Nat.le_of_lt (heapLt HX0.out)) hb.size)), Nat.le_trans (Nat.le_of_lt (heapLt HX0.out)) hb.size⟩)
  have HXb := Lib.hid ((HY0.out.below hb).alloc (.cells #[.int .i64 nd, .int .i64 sl, .int .i64 sq, .int .i64 t, .slice A1 n1 k1, .slice A2 n2 k2, .int .i64 kd, .int .i64 bc, .string (valOf bi), .int .i64 pc, .string (valOf pi), .int .i64 qc, .string (valOf qi), .int .i64 lo, .int .i64 hi] 91))
  clear x0 x1 x2 x3 x4 x5 x6 x7 x8 x9 x10 x11 x12 x13 x14 hb HX0 HB0 HY0
  go_upto_region 2 with fail
  generalize (W1.alloc (.cells #[.int .i64 nd, .int .i64 sl, .int .i64 sq, .int .i64 t, .slice A1 n1 k1, .slice A2 n2 k2, .int .i64 kd, .int .i64 bc, .string (valOf bi), .int .i64 pc, .string (valOf pi), .int .i64 qc, .string (valOf qi), .int .i64 lo, .int .i64 hi] 91)) = W2 at *
  generalize W1.heap.size = r at *
  obtain ⟨yb0, yb1⟩ := HXb.out.cs
  go_wp2_with fail
  refine (zero_run _ _ _ hk4).mono ?_
  rintro e W1 ⟨rfl, hb⟩
  have J1 := Lib.hid (J2.out.bl hb)
  have HXb_1 := Lib.hid (HXb.out.below hb)
  clear yb0 yb1
  clear hb
  cases z1 : zeroB f k
  · --z1 false
    by_cases h1 : kd = 1
    · --h1 t
      have h1D := Lib.hid (show decide (kd = 1) = true by simpa using h1)
      have h1t0 : (kd == 1) = true := by first | (rw [decide_eq_false_iff_not]; omega) | (rw [decide_eq_true_iff]; omega) | (rw [bne_iff_ne]; omega) | (rw [beq_iff_eq]; omega) | (rw [beq_eq_false_iff_ne]; omega) | (rw [bne_eq_false_iff_eq]; omega)
      clear h1
      have x6 : W1.cell? ⟨r, 6, none⟩ = some (.int .i64 kd) := cell_of_row _ _ 6 _ _ (0, 0) J1.out.e
      have x9 : W1.cell? ⟨r, 9, none⟩ = some (.int .i64 pc) := cell_of_row _ _ 9 _ _ (0, 0) J1.out.e
      have x10 : W1.cell? ⟨r, 10, none⟩ = some (.string (valOf pi)) := cell_of_row _ _ 10 _ _ (0, 0) J1.out.e
      have x11 : W1.cell? ⟨r, 11, none⟩ = some (.int .i64 qc) := cell_of_row _ _ 11 _ _ (0, 0) J1.out.e
      have x12 : W1.cell? ⟨r, 12, none⟩ = some (.string (valOf qi)) := cell_of_row _ _ 12 _ _ (0, 0) J1.out.e
      obtain ⟨yb0, yb1⟩ := HXb_1.out.cs
      go_wp2_with fail
      refine (prepares_run _ _ _ _ _ _ _ hp hq hk4).mono ?_
      rintro e W2 ⟨rfl, hb⟩
      have J2 := Lib.hid (J1.out.bl hb)
      have HXb_2 := Lib.hid (HXb_1.out.below hb)
      clear x6 x9 x10 x11 x12 yb0 yb1
      clear hb
      cases z2 : prepB pc pi qc qi f k
      · --z2 false
        obtain rfl : false = R := by rw [← HR.out]; unfold apB; symm; first | (simp only [z1, h1D.out, z2, Bool.false_eq_true, if_false, if_true, Bool.not_true, Bool.not_false, Bool.and_true, Bool.true_and, Bool.and_false, Bool.false_and, Bool.or_false, Bool.or_true, Bool.false_or, Bool.true_or]; done) | (simp [z1, h1D.out, z2]; done)
        clear HR
        go_wp2_with fail
        go_ret
        exact ⟨rfl, by rw [HG.out]; exact J2.out.bel⟩
      · --z2 true
        obtain rfl : true = R := by rw [← HR.out]; unfold apB; symm; first | (simp only [z1, h1D.out, z2, Bool.false_eq_true, if_false, if_true, Bool.not_true, Bool.not_false, Bool.and_true, Bool.true_and, Bool.and_false, Bool.false_and, Bool.or_false, Bool.or_true, Bool.false_or, Bool.true_or]; done) | (simp [z1, h1D.out, z2]; done)
        clear HR
        go_wp2_with fail
        go_ret
        exact ⟨rfl, by rw [HG.out]; exact J2.out.bel⟩
    · --h1 f
      have h1D := Lib.hid (show decide (kd = 1) = false by simpa using h1)
      have h1f0 : (kd == 1) = false := by first | (rw [decide_eq_false_iff_not]; omega) | (rw [decide_eq_true_iff]; omega) | (rw [bne_iff_ne]; omega) | (rw [beq_iff_eq]; omega) | (rw [beq_eq_false_iff_ne]; omega) | (rw [bne_eq_false_iff_eq]; omega)
      clear h1
      by_cases h2 : kd = 2
      · --h2 t
        have h2D := Lib.hid (show decide (kd = 2) = true by simpa using h2)
        have h2t0 : (kd == 2) = true := by first | (rw [decide_eq_false_iff_not]; omega) | (rw [decide_eq_true_iff]; omega) | (rw [bne_iff_ne]; omega) | (rw [beq_iff_eq]; omega) | (rw [beq_eq_false_iff_ne]; omega) | (rw [bne_eq_false_iff_eq]; omega)
        clear h2
        have x6 : W1.cell? ⟨r, 6, none⟩ = some (.int .i64 kd) := cell_of_row _ _ 6 _ _ (0, 0) J1.out.e
        have x9 : W1.cell? ⟨r, 9, none⟩ = some (.int .i64 pc) := cell_of_row _ _ 9 _ _ (0, 0) J1.out.e
        have x10 : W1.cell? ⟨r, 10, none⟩ = some (.string (valOf pi)) := cell_of_row _ _ 10 _ _ (0, 0) J1.out.e
        obtain ⟨yb0, yb1⟩ := HXb_1.out.cs
        go_wp2_with fail
        refine (covers_run _ _ _ _ _ hp hk4).mono ?_
        rintro e W3 ⟨rfl, hb⟩
        have J3 := Lib.hid (J1.out.bl hb)
        have HXb_3 := Lib.hid (HXb_1.out.below hb)
        clear x6 x9 x10 yb0 yb1
        clear hb
        cases z2 : covB pc pi f k
        · --z2 false
          obtain rfl : false = R := by rw [← HR.out]; unfold apB; symm; first | (simp only [z1, h1D.out, h2D.out, z2, Bool.false_eq_true, if_false, if_true, Bool.not_true, Bool.not_false, Bool.and_true, Bool.true_and, Bool.and_false, Bool.false_and, Bool.or_false, Bool.or_true, Bool.false_or, Bool.true_or]; done) | (simp [z1, h1D.out, h2D.out, z2]; done)
          clear HR
          go_wp2_with fail
          go_ret
          exact ⟨rfl, by rw [HG.out]; exact J3.out.bel⟩
        · --z2 true
          obtain rfl : true = R := by rw [← HR.out]; unfold apB; symm; first | (simp only [z1, h1D.out, h2D.out, z2, Bool.false_eq_true, if_false, if_true, Bool.not_true, Bool.not_false, Bool.and_true, Bool.true_and, Bool.and_false, Bool.false_and, Bool.or_false, Bool.or_true, Bool.false_or, Bool.true_or]; done) | (simp [z1, h1D.out, h2D.out, z2]; done)
          clear HR
          go_wp2_with fail
          go_ret
          exact ⟨rfl, by rw [HG.out]; exact J3.out.bel⟩
      · --h2 f
        have h2D := Lib.hid (show decide (kd = 2) = false by simpa using h2)
        have h2f0 : (kd == 2) = false := by first | (rw [decide_eq_false_iff_not]; omega) | (rw [decide_eq_true_iff]; omega) | (rw [bne_iff_ne]; omega) | (rw [beq_iff_eq]; omega) | (rw [beq_eq_false_iff_ne]; omega) | (rw [bne_eq_false_iff_eq]; omega)
        clear h2
        have x6 : W1.cell? ⟨r, 6, none⟩ = some (.int .i64 kd) := cell_of_row _ _ 6 _ _ (0, 0) J1.out.e
        have x7 : W1.cell? ⟨r, 7, none⟩ = some (.int .i64 bc) := cell_of_row _ _ 7 _ _ (0, 0) J1.out.e
        have x8 : W1.cell? ⟨r, 8, none⟩ = some (.string (valOf bi)) := cell_of_row _ _ 8 _ _ (0, 0) J1.out.e
        obtain ⟨yb0, yb1⟩ := HXb_1.out.cs
        go_wp2_with fail
        refine (compat_run _ _ _ _ _ hb hk4).mono ?_
        rintro e W4 ⟨rfl, hb⟩
        have J4 := Lib.hid (J1.out.bl hb)
        have HXb_4 := Lib.hid (HXb_1.out.below hb)
        clear x6 x7 x8 yb0 yb1
        clear hb
        cases z2 : decide (bi = k)
        · --z2 false
          obtain rfl : false = R := by rw [← HR.out]; unfold apB; symm; first | (simp only [z1, h1D.out, h2D.out, z2, Bool.false_eq_true, if_false, if_true, Bool.not_true, Bool.not_false, Bool.and_true, Bool.true_and, Bool.and_false, Bool.false_and, Bool.or_false, Bool.or_true, Bool.false_or, Bool.true_or]; done) | (simp [z1, h1D.out, h2D.out, z2]; done)
          clear HR
          go_wp2_with fail
          go_ret
          exact ⟨rfl, by rw [HG.out]; exact J4.out.bel⟩
        · --z2 true
          obtain rfl : true = R := by rw [← HR.out]; unfold apB; symm; first | (simp only [z1, h1D.out, h2D.out, z2, Bool.false_eq_true, if_false, if_true, Bool.not_true, Bool.not_false, Bool.and_true, Bool.true_and, Bool.and_false, Bool.false_and, Bool.or_false, Bool.or_true, Bool.false_or, Bool.true_or]; done) | (simp [z1, h1D.out, h2D.out, z2]; done)
          clear HR
          go_wp2_with fail
          go_ret
          exact ⟨rfl, by rw [HG.out]; exact J4.out.bel⟩
  · --z1 true
    obtain rfl : false = R := by rw [← HR.out]; unfold apB; symm; first | (simp only [z1, Bool.false_eq_true, if_false, if_true, Bool.not_true, Bool.not_false, Bool.and_true, Bool.true_and, Bool.and_false, Bool.false_and, Bool.or_false, Bool.or_true, Bool.false_or, Bool.true_or]; done) | (simp [z1]; done)
    clear HR
    go_wp2_with fail
    go_ret
    exact ⟨rfl, by rw [HG.out]; exact J1.out.bel⟩

set_option maxRecDepth 100000 in
set_option maxHeartbeats 4000000 in
theorem speaks_run {P : Nat → Prop} {T : Tree} (nd sl sq t kd bc pc qc lo hi : Int) (bi pi qi n1 k1 n2 k2 : Nat) (A1 A2 : Option Addr) (v : Nat) (l h : Int) (hv4 : v ≤ 4) (w : World) (hE : GE P T nd sl sq t kd bc pc qc lo hi bi pi qi n1 k1 n2 k2 A1 A2 w) :
    Calls Try.prog 70 #[.agg #[.int .i64 nd, .int .i64 sl, .int .i64 sq, .int .i64 t, .slice A1 n1 k1, .slice A2 n2 k2, .int .i64 kd, .int .i64 bc, .string (valOf bi), .int .i64 pc, .string (valOf pi), .int .i64 qc, .string (valOf qi), .int .i64 lo, .int .i64 hi], .string (valOf v), .int .i64 l, .int .i64 h] w fun e w' => e = .returned (.tuple #[.agg #[.int .i64 nd, .int .i64 sl, .int .i64 sq, .int .i64 t, .slice A1 n1 k1, .slice A2 n2 k2, .int .i64 kd, .int .i64 bc, .string (valOf bi), .int .i64 pc, .string (valOf pi), .int .i64 qc, .string (valOf qi), .int .i64 lo, .int .i64 hi], .bool (spB bi lo v l h)]) ∧ Below w.heap.size w w' := by
  obtain ⟨R, hR⟩ : ∃ R, spB bi lo v l h = R := ⟨_, rfl⟩
  rw [hR]
  have HR := Lib.hid hR
  have hb4 := hE.b
  have hvv := valOf_eqL hb4 hv4
  have HVV := Lib.hid hvv
  clear hR hvv
  have HE := Lib.hid (hE.bl (w' := ((w.alloc (.cells #[.int .i64 nd, .int .i64 sl, .int .i64 sq, .int .i64 t, .slice A1 n1 k1, .slice A2 n2 k2, .int .i64 kd, .int .i64 bc, .string (valOf bi), .int .i64 pc, .string (valOf pi), .int .i64 qc, .string (valOf qi), .int .i64 lo, .int .i64 hi] 44)).alloc (.cells #[.int .i64 0, .int .i64 0, .int .i64 0, .int .i64 0, .slice none 0 0, .slice none 0 0, .int .i64 0, .int .i64 0, .string ⟨#[]⟩, .int .i64 0, .string ⟨#[]⟩, .int .i64 0, .string ⟨#[]⟩, .int .i64 0, .int .i64 0] 91))) (balloc (balloc (bref w) _) _))
  have HB0 := Lib.hid (show Below w.heap.size w ((w.alloc (.cells #[.int .i64 nd, .int .i64 sl, .int .i64 sq, .int .i64 t, .slice A1 n1 k1, .slice A2 n2 k2, .int .i64 kd, .int .i64 bc, .string (valOf bi), .int .i64 pc, .string (valOf pi), .int .i64 qc, .string (valOf qi), .int .i64 lo, .int .i64 hi] 44)).alloc (.cells #[.int .i64 0, .int .i64 0, .int .i64 0, .int .i64 0, .slice none 0 0, .slice none 0 0, .int .i64 0, .int .i64 0, .string ⟨#[]⟩, .int .i64 0, .string ⟨#[]⟩, .int .i64 0, .string ⟨#[]⟩, .int .i64 0, .int .i64 0] 91)) from balloc (balloc (bref w) _) _)
  have HX0 := Lib.hid (show ((w.alloc (.cells #[.int .i64 nd, .int .i64 sl, .int .i64 sq, .int .i64 t, .slice A1 n1 k1, .slice A2 n2 k2, .int .i64 kd, .int .i64 bc, .string (valOf bi), .int .i64 pc, .string (valOf pi), .int .i64 qc, .string (valOf qi), .int .i64 lo, .int .i64 hi] 44)).alloc (.cells #[.int .i64 0, .int .i64 0, .int .i64 0, .int .i64 0, .slice none 0 0, .slice none 0 0, .int .i64 0, .int .i64 0, .string ⟨#[]⟩, .int .i64 0, .string ⟨#[]⟩, .int .i64 0, .string ⟨#[]⟩, .int .i64 0, .int .i64 0] 91)).heap[w.heap.size]? = some (.cells #[.int .i64 nd, .int .i64 sl, .int .i64 sq, .int .i64 t, .slice A1 n1 k1, .slice A2 n2 k2, .int .i64 kd, .int .i64 bc, .string (valOf bi), .int .i64 pc, .string (valOf pi), .int .i64 qc, .string (valOf qi), .int .i64 lo, .int .i64 hi] 44 (0, 0)) from (Below.heap_alloc _ _ _ (by simp)).trans (heap_alloc_new _ _))
  have HY0 := Lib.hid (show ((w.alloc (.cells #[.int .i64 nd, .int .i64 sl, .int .i64 sq, .int .i64 t, .slice A1 n1 k1, .slice A2 n2 k2, .int .i64 kd, .int .i64 bc, .string (valOf bi), .int .i64 pc, .string (valOf pi), .int .i64 qc, .string (valOf qi), .int .i64 lo, .int .i64 hi] 44)).alloc (.cells #[.int .i64 0, .int .i64 0, .int .i64 0, .int .i64 0, .slice none 0 0, .slice none 0 0, .int .i64 0, .int .i64 0, .string ⟨#[]⟩, .int .i64 0, .string ⟨#[]⟩, .int .i64 0, .string ⟨#[]⟩, .int .i64 0, .int .i64 0] 91)).heap[w.heap.size + 1]? = some (.cells #[.int .i64 0, .int .i64 0, .int .i64 0, .int .i64 0, .slice none 0 0, .slice none 0 0, .int .i64 0, .int .i64 0, .string ⟨#[]⟩, .int .i64 0, .string ⟨#[]⟩, .int .i64 0, .string ⟨#[]⟩, .int .i64 0, .int .i64 0] 91 (0, 0)) by have := heap_alloc_new (w.alloc (.cells #[.int .i64 nd, .int .i64 sl, .int .i64 sq, .int .i64 t, .slice A1 n1 k1, .slice A2 n2 k2, .int .i64 kd, .int .i64 bc, .string (valOf bi), .int .i64 pc, .string (valOf pi), .int .i64 qc, .string (valOf qi), .int .i64 lo, .int .i64 hi] 44)) (.cells #[.int .i64 0, .int .i64 0, .int .i64 0, .int .i64 0, .slice none 0 0, .slice none 0 0, .int .i64 0, .int .i64 0, .string ⟨#[]⟩, .int .i64 0, .string ⟨#[]⟩, .int .i64 0, .string ⟨#[]⟩, .int .i64 0, .int .i64 0] 91); rw [World.size_alloc] at this; exact this)
  clear hE
  go_enter Try.func70, Try.ntmps70
  go_upto_region 1 with fail
  generalize ((w.alloc (.cells #[.int .i64 nd, .int .i64 sl, .int .i64 sq, .int .i64 t, .slice A1 n1 k1, .slice A2 n2 k2, .int .i64 kd, .int .i64 bc, .string (valOf bi), .int .i64 pc, .string (valOf pi), .int .i64 qc, .string (valOf qi), .int .i64 lo, .int .i64 hi] 44)).alloc (.cells #[.int .i64 0, .int .i64 0, .int .i64 0, .int .i64 0, .slice none 0 0, .slice none 0 0, .int .i64 0, .int .i64 0, .string ⟨#[]⟩, .int .i64 0, .string ⟨#[]⟩, .int .i64 0, .string ⟨#[]⟩, .int .i64 0, .int .i64 0] 91)) = W0 at *
  generalize hg : w.heap.size = g at *
  have HG := Lib.hid hg
  clear hg
  have x0 : W0.cell? ⟨g, 0, none⟩ = some (.int .i64 nd) := cell_of_row _ _ 0 _ _ (0, 0) HX0.out
  have x1 : W0.cell? ⟨g, 1, none⟩ = some (.int .i64 sl) := cell_of_row _ _ 1 _ _ (0, 0) HX0.out
  have x2 : W0.cell? ⟨g, 2, none⟩ = some (.int .i64 sq) := cell_of_row _ _ 2 _ _ (0, 0) HX0.out
  have x3 : W0.cell? ⟨g, 3, none⟩ = some (.int .i64 t) := cell_of_row _ _ 3 _ _ (0, 0) HX0.out
  have x4 : W0.cell? ⟨g, 4, none⟩ = some (.slice A1 n1 k1) := cell_of_row _ _ 4 _ _ (0, 0) HX0.out
  have x5 : W0.cell? ⟨g, 5, none⟩ = some (.slice A2 n2 k2) := cell_of_row _ _ 5 _ _ (0, 0) HX0.out
  have x6 : W0.cell? ⟨g, 6, none⟩ = some (.int .i64 kd) := cell_of_row _ _ 6 _ _ (0, 0) HX0.out
  have x7 : W0.cell? ⟨g, 7, none⟩ = some (.int .i64 bc) := cell_of_row _ _ 7 _ _ (0, 0) HX0.out
  have x8 : W0.cell? ⟨g, 8, none⟩ = some (.string (valOf bi)) := cell_of_row _ _ 8 _ _ (0, 0) HX0.out
  have x9 : W0.cell? ⟨g, 9, none⟩ = some (.int .i64 pc) := cell_of_row _ _ 9 _ _ (0, 0) HX0.out
  have x10 : W0.cell? ⟨g, 10, none⟩ = some (.string (valOf pi)) := cell_of_row _ _ 10 _ _ (0, 0) HX0.out
  have x11 : W0.cell? ⟨g, 11, none⟩ = some (.int .i64 qc) := cell_of_row _ _ 11 _ _ (0, 0) HX0.out
  have x12 : W0.cell? ⟨g, 12, none⟩ = some (.string (valOf qi)) := cell_of_row _ _ 12 _ _ (0, 0) HX0.out
  have x13 : W0.cell? ⟨g, 13, none⟩ = some (.int .i64 lo) := cell_of_row _ _ 13 _ _ (0, 0) HX0.out
  have x14 : W0.cell? ⟨g, 14, none⟩ = some (.int .i64 hi) := cell_of_row _ _ 14 _ _ (0, 0) HX0.out
  go_wp2_with fail
  refine (check_ok _ _ _ _ _ _ _ _ _ _ _ _ _ _ _ _ _ _ _ HE.out).mono ?_
  rintro e W1 ⟨rfl, hb⟩
  have J2 := Lib.hid (show EW w g W1.heap.size #[.int .i64 nd, .int .i64 sl, .int .i64 sq, .int .i64 t, .slice A1 n1 k1, .slice A2 n2 k2, .int .i64 kd, .int .i64 bc, .string (valOf bi), .int .i64 pc, .string (valOf pi), .int .i64 qc, .string (valOf qi), .int .i64 lo, .int .i64 hi] 91 (W1.alloc (.cells #[.int .i64 nd, .int .i64 sl, .int .i64 sq, .int .i64 t, .slice A1 n1 k1, .slice A2 n2 k2, .int .i64 kd, .int .i64 bc, .string (valOf bi), .int .i64 pc, .string (valOf pi), .int .i64 qc, .string (valOf qi), .int .i64 lo, .int .i64 hi] 91)) from ⟨heap_alloc_new _ _, (HB0.out.trans (hb.mono (Nat.le_of_lt (heapLt HX0.out)))).trans ((balloc (bref W1) _).mono (Nat.le_trans (Nat.le_of_lt (heapLt HX0.out)) hb.size)), Nat.le_trans (Nat.le_of_lt (heapLt HX0.out)) hb.size⟩)
  have HRes := Lib.hid (show (W1.alloc (.cells #[.int .i64 nd, .int .i64 sl, .int .i64 sq, .int .i64 t, .slice A1 n1 k1, .slice A2 n2 k2, .int .i64 kd, .int .i64 bc, .string (valOf bi), .int .i64 pc, .string (valOf pi), .int .i64 qc, .string (valOf qi), .int .i64 lo, .int .i64 hi] 91)).heap[g + 1]? = some (.cells #[.int .i64 0, .int .i64 0, .int .i64 0, .int .i64 0, .slice none 0 0, .slice none 0 0, .int .i64 0, .int .i64 0, .string ⟨#[]⟩, .int .i64 0, .string ⟨#[]⟩, .int .i64 0, .string ⟨#[]⟩, .int .i64 0, .int .i64 0] 91 (0, 0)) from (Below.heap_alloc _ _ _ (Nat.lt_of_lt_of_le (heapLt HY0.out) hb.size)).trans ((hb.block _ (heapLt HY0.out)).trans HY0.out))
  have hlr : g + 1 < W1.heap.size := Nat.lt_of_lt_of_le (heapLt HY0.out) hb.size
  clear x0 x1 x2 x3 x4 x5 x6 x7 x8 x9 x10 x11 x12 x13 x14 hb HX0 HB0 HY0
  go_upto_region 2 with fail
  generalize (W1.alloc (.cells #[.int .i64 nd, .int .i64 sl, .int .i64 sq, .int .i64 t, .slice A1 n1 k1, .slice A2 n2 k2, .int .i64 kd, .int .i64 bc, .string (valOf bi), .int .i64 pc, .string (valOf pi), .int .i64 qc, .string (valOf qi), .int .i64 lo, .int .i64 hi] 91)) = W2 at *
  generalize W1.heap.size = r at *
  cases h1 : decide (bi = v)
  · --false
    have hvx := HVV.out
    rw [h1] at hvx
    have h1D := Lib.hid h1
    clear h1
    obtain rfl : false = R := by rw [← HR.out]; unfold spB; symm; first | (simp only [h1D.out, Bool.false_eq_true, if_false, if_true, Bool.not_true, Bool.not_false, Bool.and_true, Bool.true_and, Bool.and_false, Bool.false_and, Bool.or_false, Bool.or_true, Bool.false_or, Bool.true_or]; done) | (simp [h1D.out]; done)
    clear HR
    have x0 : W2.cell? ⟨r, 0, none⟩ = some (.int .i64 nd) := cell_of_row _ _ 0 _ _ (0, 0) J2.out.e
    have x1 : W2.cell? ⟨r, 1, none⟩ = some (.int .i64 sl) := cell_of_row _ _ 1 _ _ (0, 0) J2.out.e
    have x2 : W2.cell? ⟨r, 2, none⟩ = some (.int .i64 sq) := cell_of_row _ _ 2 _ _ (0, 0) J2.out.e
    have x3 : W2.cell? ⟨r, 3, none⟩ = some (.int .i64 t) := cell_of_row _ _ 3 _ _ (0, 0) J2.out.e
    have x4 : W2.cell? ⟨r, 4, none⟩ = some (.slice A1 n1 k1) := cell_of_row _ _ 4 _ _ (0, 0) J2.out.e
    have x5 : W2.cell? ⟨r, 5, none⟩ = some (.slice A2 n2 k2) := cell_of_row _ _ 5 _ _ (0, 0) J2.out.e
    have x6 : W2.cell? ⟨r, 6, none⟩ = some (.int .i64 kd) := cell_of_row _ _ 6 _ _ (0, 0) J2.out.e
    have x7 : W2.cell? ⟨r, 7, none⟩ = some (.int .i64 bc) := cell_of_row _ _ 7 _ _ (0, 0) J2.out.e
    have x8 : W2.cell? ⟨r, 8, none⟩ = some (.string (valOf bi)) := cell_of_row _ _ 8 _ _ (0, 0) J2.out.e
    have x9 : W2.cell? ⟨r, 9, none⟩ = some (.int .i64 pc) := cell_of_row _ _ 9 _ _ (0, 0) J2.out.e
    have x10 : W2.cell? ⟨r, 10, none⟩ = some (.string (valOf pi)) := cell_of_row _ _ 10 _ _ (0, 0) J2.out.e
    have x11 : W2.cell? ⟨r, 11, none⟩ = some (.int .i64 qc) := cell_of_row _ _ 11 _ _ (0, 0) J2.out.e
    have x12 : W2.cell? ⟨r, 12, none⟩ = some (.string (valOf qi)) := cell_of_row _ _ 12 _ _ (0, 0) J2.out.e
    have x13 : W2.cell? ⟨r, 13, none⟩ = some (.int .i64 lo) := cell_of_row _ _ 13 _ _ (0, 0) J2.out.e
    have x14 : W2.cell? ⟨r, 14, none⟩ = some (.int .i64 hi) := cell_of_row _ _ 14 _ _ (0, 0) J2.out.e
    have r0 : W2.cell? ⟨g + 1, 0, none⟩ = some (.int .i64 0) := cell_of_row _ _ 0 _ _ (0, 0) HRes.out
    have r1 : W2.cell? ⟨g + 1, 1, none⟩ = some (.int .i64 0) := cell_of_row _ _ 1 _ _ (0, 0) HRes.out
    have r2 : W2.cell? ⟨g + 1, 2, none⟩ = some (.int .i64 0) := cell_of_row _ _ 2 _ _ (0, 0) HRes.out
    have r3 : W2.cell? ⟨g + 1, 3, none⟩ = some (.int .i64 0) := cell_of_row _ _ 3 _ _ (0, 0) HRes.out
    have r4 : W2.cell? ⟨g + 1, 4, none⟩ = some (.slice none 0 0) := cell_of_row _ _ 4 _ _ (0, 0) HRes.out
    have r5 : W2.cell? ⟨g + 1, 5, none⟩ = some (.slice none 0 0) := cell_of_row _ _ 5 _ _ (0, 0) HRes.out
    have r6 : W2.cell? ⟨g + 1, 6, none⟩ = some (.int .i64 0) := cell_of_row _ _ 6 _ _ (0, 0) HRes.out
    have r7 : W2.cell? ⟨g + 1, 7, none⟩ = some (.int .i64 0) := cell_of_row _ _ 7 _ _ (0, 0) HRes.out
    have r8 : W2.cell? ⟨g + 1, 8, none⟩ = some (.string ⟨#[]⟩) := cell_of_row _ _ 8 _ _ (0, 0) HRes.out
    have r9 : W2.cell? ⟨g + 1, 9, none⟩ = some (.int .i64 0) := cell_of_row _ _ 9 _ _ (0, 0) HRes.out
    have r10 : W2.cell? ⟨g + 1, 10, none⟩ = some (.string ⟨#[]⟩) := cell_of_row _ _ 10 _ _ (0, 0) HRes.out
    have r11 : W2.cell? ⟨g + 1, 11, none⟩ = some (.int .i64 0) := cell_of_row _ _ 11 _ _ (0, 0) HRes.out
    have r12 : W2.cell? ⟨g + 1, 12, none⟩ = some (.string ⟨#[]⟩) := cell_of_row _ _ 12 _ _ (0, 0) HRes.out
    have r13 : W2.cell? ⟨g + 1, 13, none⟩ = some (.int .i64 0) := cell_of_row _ _ 13 _ _ (0, 0) HRes.out
    have r14 : W2.cell? ⟨g + 1, 14, none⟩ = some (.int .i64 0) := cell_of_row _ _ 14 _ _ (0, 0) HRes.out
    have f0 : W2.frozen? ⟨g + 1, 0, none⟩ = false := by have := HRes.out; simp [World.frozen?, this]
    have f1 : W2.frozen? ⟨g + 1, 1, none⟩ = false := by have := HRes.out; simp [World.frozen?, this]
    have f2 : W2.frozen? ⟨g + 1, 2, none⟩ = false := by have := HRes.out; simp [World.frozen?, this]
    have f3 : W2.frozen? ⟨g + 1, 3, none⟩ = false := by have := HRes.out; simp [World.frozen?, this]
    have f4 : W2.frozen? ⟨g + 1, 4, none⟩ = false := by have := HRes.out; simp [World.frozen?, this]
    have f5 : W2.frozen? ⟨g + 1, 5, none⟩ = false := by have := HRes.out; simp [World.frozen?, this]
    have f6 : W2.frozen? ⟨g + 1, 6, none⟩ = false := by have := HRes.out; simp [World.frozen?, this]
    have f7 : W2.frozen? ⟨g + 1, 7, none⟩ = false := by have := HRes.out; simp [World.frozen?, this]
    have f8 : W2.frozen? ⟨g + 1, 8, none⟩ = false := by have := HRes.out; simp [World.frozen?, this]
    have f9 : W2.frozen? ⟨g + 1, 9, none⟩ = false := by have := HRes.out; simp [World.frozen?, this]
    have f10 : W2.frozen? ⟨g + 1, 10, none⟩ = false := by have := HRes.out; simp [World.frozen?, this]
    have f11 : W2.frozen? ⟨g + 1, 11, none⟩ = false := by have := HRes.out; simp [World.frozen?, this]
    have f12 : W2.frozen? ⟨g + 1, 12, none⟩ = false := by have := HRes.out; simp [World.frozen?, this]
    have f13 : W2.frozen? ⟨g + 1, 13, none⟩ = false := by have := HRes.out; simp [World.frozen?, this]
    have f14 : W2.frozen? ⟨g + 1, 14, none⟩ = false := by have := HRes.out; simp [World.frozen?, this]
    have hgl := heapLt HRes.out
    have HRS := Lib.hid (set15 HRes.out (.int .i64 nd) (.int .i64 sl) (.int .i64 sq) (.int .i64 t) (.slice A1 n1 k1) (.slice A2 n2 k2) (.int .i64 kd) (.int .i64 bc) (.string (valOf bi)) (.int .i64 pc) (.string (valOf pi)) (.int .i64 qc) (.string (valOf qi)) (.int .i64 lo) (.int .i64 hi))
    have HBL := Lib.hid (bel15 (g + 1) (by omega) J2.out.bel (.int .i64 nd) (.int .i64 sl) (.int .i64 sq) (.int .i64 t) (.slice A1 n1 k1) (.slice A2 n2 k2) (.int .i64 kd) (.int .i64 bc) (.string (valOf bi)) (.int .i64 pc) (.string (valOf pi)) (.int .i64 qc) (.string (valOf qi)) (.int .i64 lo) (.int .i64 hi))
    go_wp2_with fail
    generalize (((((((((((((((W2.setCell ⟨g + 1, 0, none⟩ (.int .i64 nd)).setCell ⟨g + 1, 1, none⟩ (.int .i64 sl)).setCell ⟨g + 1, 2, none⟩ (.int .i64 sq)).setCell ⟨g + 1, 3, none⟩ (.int .i64 t)).setCell ⟨g + 1, 4, none⟩ (.slice A1 n1 k1)).setCell ⟨g + 1, 5, none⟩ (.slice A2 n2 k2)).setCell ⟨g + 1, 6, none⟩ (.int .i64 kd)).setCell ⟨g + 1, 7, none⟩ (.int .i64 bc)).setCell ⟨g + 1, 8, none⟩ (.string (valOf bi))).setCell ⟨g + 1, 9, none⟩ (.int .i64 pc)).setCell ⟨g + 1, 10, none⟩ (.string (valOf pi))).setCell ⟨g + 1, 11, none⟩ (.int .i64 qc)).setCell ⟨g + 1, 12, none⟩ (.string (valOf qi))).setCell ⟨g + 1, 13, none⟩ (.int .i64 lo)).setCell ⟨g + 1, 14, none⟩ (.int .i64 hi)) = W5 at *
    have s0 : W5.cell? ⟨g + 1, 0, none⟩ = some (.int .i64 nd) := cell_of_row _ _ 0 _ _ (0, 0) HRS.out
    have s1 : W5.cell? ⟨g + 1, 1, none⟩ = some (.int .i64 sl) := cell_of_row _ _ 1 _ _ (0, 0) HRS.out
    have s2 : W5.cell? ⟨g + 1, 2, none⟩ = some (.int .i64 sq) := cell_of_row _ _ 2 _ _ (0, 0) HRS.out
    have s3 : W5.cell? ⟨g + 1, 3, none⟩ = some (.int .i64 t) := cell_of_row _ _ 3 _ _ (0, 0) HRS.out
    have s4 : W5.cell? ⟨g + 1, 4, none⟩ = some (.slice A1 n1 k1) := cell_of_row _ _ 4 _ _ (0, 0) HRS.out
    have s5 : W5.cell? ⟨g + 1, 5, none⟩ = some (.slice A2 n2 k2) := cell_of_row _ _ 5 _ _ (0, 0) HRS.out
    have s6 : W5.cell? ⟨g + 1, 6, none⟩ = some (.int .i64 kd) := cell_of_row _ _ 6 _ _ (0, 0) HRS.out
    have s7 : W5.cell? ⟨g + 1, 7, none⟩ = some (.int .i64 bc) := cell_of_row _ _ 7 _ _ (0, 0) HRS.out
    have s8 : W5.cell? ⟨g + 1, 8, none⟩ = some (.string (valOf bi)) := cell_of_row _ _ 8 _ _ (0, 0) HRS.out
    have s9 : W5.cell? ⟨g + 1, 9, none⟩ = some (.int .i64 pc) := cell_of_row _ _ 9 _ _ (0, 0) HRS.out
    have s10 : W5.cell? ⟨g + 1, 10, none⟩ = some (.string (valOf pi)) := cell_of_row _ _ 10 _ _ (0, 0) HRS.out
    have s11 : W5.cell? ⟨g + 1, 11, none⟩ = some (.int .i64 qc) := cell_of_row _ _ 11 _ _ (0, 0) HRS.out
    have s12 : W5.cell? ⟨g + 1, 12, none⟩ = some (.string (valOf qi)) := cell_of_row _ _ 12 _ _ (0, 0) HRS.out
    have s13 : W5.cell? ⟨g + 1, 13, none⟩ = some (.int .i64 lo) := cell_of_row _ _ 13 _ _ (0, 0) HRS.out
    have s14 : W5.cell? ⟨g + 1, 14, none⟩ = some (.int .i64 hi) := cell_of_row _ _ 14 _ _ (0, 0) HRS.out
    refine bodyPost_ret (v := .tuple #[.agg #[.int .i64 nd, .int .i64 sl, .int .i64 sq, .int .i64 t, .slice A1 n1 k1, .slice A2 n2 k2, .int .i64 kd, .int .i64 bc, .string (valOf bi), .int .i64 pc, .string (valOf pi), .int .i64 qc, .string (valOf qi), .int .i64 lo, .int .i64 hi], .bool false]) ?_ rfl ⟨rfl, by rw [HG.out]; exact HBL.out⟩
    simp [results, Try.results70, go_sem, s0, s1, s2, s3, s4, s5, s6, s7, s8, s9, s10, s11, s12, s13, s14]
  · --true
    have hvx := HVV.out
    rw [h1] at hvx
    have h1D := Lib.hid h1
    clear h1
    by_cases h2 : lo = 0
    · --h2 t
      have h2D := Lib.hid (show decide (lo = 0) = true by simpa using h2)
      have h2t0 : (lo != 0) = false := by first | (rw [decide_eq_false_iff_not]; omega) | (rw [decide_eq_true_iff]; omega) | (rw [bne_iff_ne]; omega) | (rw [beq_iff_eq]; omega) | (rw [beq_eq_false_iff_ne]; omega) | (rw [bne_eq_false_iff_eq]; omega)
      clear h2
      obtain rfl : false = R := by rw [← HR.out]; unfold spB; symm; first | (simp only [h1D.out, h2D.out, Bool.false_eq_true, if_false, if_true, Bool.not_true, Bool.not_false, Bool.and_true, Bool.true_and, Bool.and_false, Bool.false_and, Bool.or_false, Bool.or_true, Bool.false_or, Bool.true_or]; done) | (simp [h1D.out, h2D.out]; done)
      clear HR
      have x0 : W2.cell? ⟨r, 0, none⟩ = some (.int .i64 nd) := cell_of_row _ _ 0 _ _ (0, 0) J2.out.e
      have x1 : W2.cell? ⟨r, 1, none⟩ = some (.int .i64 sl) := cell_of_row _ _ 1 _ _ (0, 0) J2.out.e
      have x2 : W2.cell? ⟨r, 2, none⟩ = some (.int .i64 sq) := cell_of_row _ _ 2 _ _ (0, 0) J2.out.e
      have x3 : W2.cell? ⟨r, 3, none⟩ = some (.int .i64 t) := cell_of_row _ _ 3 _ _ (0, 0) J2.out.e
      have x4 : W2.cell? ⟨r, 4, none⟩ = some (.slice A1 n1 k1) := cell_of_row _ _ 4 _ _ (0, 0) J2.out.e
      have x5 : W2.cell? ⟨r, 5, none⟩ = some (.slice A2 n2 k2) := cell_of_row _ _ 5 _ _ (0, 0) J2.out.e
      have x6 : W2.cell? ⟨r, 6, none⟩ = some (.int .i64 kd) := cell_of_row _ _ 6 _ _ (0, 0) J2.out.e
      have x7 : W2.cell? ⟨r, 7, none⟩ = some (.int .i64 bc) := cell_of_row _ _ 7 _ _ (0, 0) J2.out.e
      have x8 : W2.cell? ⟨r, 8, none⟩ = some (.string (valOf bi)) := cell_of_row _ _ 8 _ _ (0, 0) J2.out.e
      have x9 : W2.cell? ⟨r, 9, none⟩ = some (.int .i64 pc) := cell_of_row _ _ 9 _ _ (0, 0) J2.out.e
      have x10 : W2.cell? ⟨r, 10, none⟩ = some (.string (valOf pi)) := cell_of_row _ _ 10 _ _ (0, 0) J2.out.e
      have x11 : W2.cell? ⟨r, 11, none⟩ = some (.int .i64 qc) := cell_of_row _ _ 11 _ _ (0, 0) J2.out.e
      have x12 : W2.cell? ⟨r, 12, none⟩ = some (.string (valOf qi)) := cell_of_row _ _ 12 _ _ (0, 0) J2.out.e
      have x13 : W2.cell? ⟨r, 13, none⟩ = some (.int .i64 lo) := cell_of_row _ _ 13 _ _ (0, 0) J2.out.e
      have x14 : W2.cell? ⟨r, 14, none⟩ = some (.int .i64 hi) := cell_of_row _ _ 14 _ _ (0, 0) J2.out.e
      have r0 : W2.cell? ⟨g + 1, 0, none⟩ = some (.int .i64 0) := cell_of_row _ _ 0 _ _ (0, 0) HRes.out
      have r1 : W2.cell? ⟨g + 1, 1, none⟩ = some (.int .i64 0) := cell_of_row _ _ 1 _ _ (0, 0) HRes.out
      have r2 : W2.cell? ⟨g + 1, 2, none⟩ = some (.int .i64 0) := cell_of_row _ _ 2 _ _ (0, 0) HRes.out
      have r3 : W2.cell? ⟨g + 1, 3, none⟩ = some (.int .i64 0) := cell_of_row _ _ 3 _ _ (0, 0) HRes.out
      have r4 : W2.cell? ⟨g + 1, 4, none⟩ = some (.slice none 0 0) := cell_of_row _ _ 4 _ _ (0, 0) HRes.out
      have r5 : W2.cell? ⟨g + 1, 5, none⟩ = some (.slice none 0 0) := cell_of_row _ _ 5 _ _ (0, 0) HRes.out
      have r6 : W2.cell? ⟨g + 1, 6, none⟩ = some (.int .i64 0) := cell_of_row _ _ 6 _ _ (0, 0) HRes.out
      have r7 : W2.cell? ⟨g + 1, 7, none⟩ = some (.int .i64 0) := cell_of_row _ _ 7 _ _ (0, 0) HRes.out
      have r8 : W2.cell? ⟨g + 1, 8, none⟩ = some (.string ⟨#[]⟩) := cell_of_row _ _ 8 _ _ (0, 0) HRes.out
      have r9 : W2.cell? ⟨g + 1, 9, none⟩ = some (.int .i64 0) := cell_of_row _ _ 9 _ _ (0, 0) HRes.out
      have r10 : W2.cell? ⟨g + 1, 10, none⟩ = some (.string ⟨#[]⟩) := cell_of_row _ _ 10 _ _ (0, 0) HRes.out
      have r11 : W2.cell? ⟨g + 1, 11, none⟩ = some (.int .i64 0) := cell_of_row _ _ 11 _ _ (0, 0) HRes.out
      have r12 : W2.cell? ⟨g + 1, 12, none⟩ = some (.string ⟨#[]⟩) := cell_of_row _ _ 12 _ _ (0, 0) HRes.out
      have r13 : W2.cell? ⟨g + 1, 13, none⟩ = some (.int .i64 0) := cell_of_row _ _ 13 _ _ (0, 0) HRes.out
      have r14 : W2.cell? ⟨g + 1, 14, none⟩ = some (.int .i64 0) := cell_of_row _ _ 14 _ _ (0, 0) HRes.out
      have f0 : W2.frozen? ⟨g + 1, 0, none⟩ = false := by have := HRes.out; simp [World.frozen?, this]
      have f1 : W2.frozen? ⟨g + 1, 1, none⟩ = false := by have := HRes.out; simp [World.frozen?, this]
      have f2 : W2.frozen? ⟨g + 1, 2, none⟩ = false := by have := HRes.out; simp [World.frozen?, this]
      have f3 : W2.frozen? ⟨g + 1, 3, none⟩ = false := by have := HRes.out; simp [World.frozen?, this]
      have f4 : W2.frozen? ⟨g + 1, 4, none⟩ = false := by have := HRes.out; simp [World.frozen?, this]
      have f5 : W2.frozen? ⟨g + 1, 5, none⟩ = false := by have := HRes.out; simp [World.frozen?, this]
      have f6 : W2.frozen? ⟨g + 1, 6, none⟩ = false := by have := HRes.out; simp [World.frozen?, this]
      have f7 : W2.frozen? ⟨g + 1, 7, none⟩ = false := by have := HRes.out; simp [World.frozen?, this]
      have f8 : W2.frozen? ⟨g + 1, 8, none⟩ = false := by have := HRes.out; simp [World.frozen?, this]
      have f9 : W2.frozen? ⟨g + 1, 9, none⟩ = false := by have := HRes.out; simp [World.frozen?, this]
      have f10 : W2.frozen? ⟨g + 1, 10, none⟩ = false := by have := HRes.out; simp [World.frozen?, this]
      have f11 : W2.frozen? ⟨g + 1, 11, none⟩ = false := by have := HRes.out; simp [World.frozen?, this]
      have f12 : W2.frozen? ⟨g + 1, 12, none⟩ = false := by have := HRes.out; simp [World.frozen?, this]
      have f13 : W2.frozen? ⟨g + 1, 13, none⟩ = false := by have := HRes.out; simp [World.frozen?, this]
      have f14 : W2.frozen? ⟨g + 1, 14, none⟩ = false := by have := HRes.out; simp [World.frozen?, this]
      have hgl := heapLt HRes.out
      have HRS := Lib.hid (set15 HRes.out (.int .i64 nd) (.int .i64 sl) (.int .i64 sq) (.int .i64 t) (.slice A1 n1 k1) (.slice A2 n2 k2) (.int .i64 kd) (.int .i64 bc) (.string (valOf bi)) (.int .i64 pc) (.string (valOf pi)) (.int .i64 qc) (.string (valOf qi)) (.int .i64 lo) (.int .i64 hi))
      have HBL := Lib.hid (bel15 (g + 1) (by omega) J2.out.bel (.int .i64 nd) (.int .i64 sl) (.int .i64 sq) (.int .i64 t) (.slice A1 n1 k1) (.slice A2 n2 k2) (.int .i64 kd) (.int .i64 bc) (.string (valOf bi)) (.int .i64 pc) (.string (valOf pi)) (.int .i64 qc) (.string (valOf qi)) (.int .i64 lo) (.int .i64 hi))
      go_wp2_with fail
      generalize (((((((((((((((W2.setCell ⟨g + 1, 0, none⟩ (.int .i64 nd)).setCell ⟨g + 1, 1, none⟩ (.int .i64 sl)).setCell ⟨g + 1, 2, none⟩ (.int .i64 sq)).setCell ⟨g + 1, 3, none⟩ (.int .i64 t)).setCell ⟨g + 1, 4, none⟩ (.slice A1 n1 k1)).setCell ⟨g + 1, 5, none⟩ (.slice A2 n2 k2)).setCell ⟨g + 1, 6, none⟩ (.int .i64 kd)).setCell ⟨g + 1, 7, none⟩ (.int .i64 bc)).setCell ⟨g + 1, 8, none⟩ (.string (valOf bi))).setCell ⟨g + 1, 9, none⟩ (.int .i64 pc)).setCell ⟨g + 1, 10, none⟩ (.string (valOf pi))).setCell ⟨g + 1, 11, none⟩ (.int .i64 qc)).setCell ⟨g + 1, 12, none⟩ (.string (valOf qi))).setCell ⟨g + 1, 13, none⟩ (.int .i64 lo)).setCell ⟨g + 1, 14, none⟩ (.int .i64 hi)) = W5 at *
      have s0 : W5.cell? ⟨g + 1, 0, none⟩ = some (.int .i64 nd) := cell_of_row _ _ 0 _ _ (0, 0) HRS.out
      have s1 : W5.cell? ⟨g + 1, 1, none⟩ = some (.int .i64 sl) := cell_of_row _ _ 1 _ _ (0, 0) HRS.out
      have s2 : W5.cell? ⟨g + 1, 2, none⟩ = some (.int .i64 sq) := cell_of_row _ _ 2 _ _ (0, 0) HRS.out
      have s3 : W5.cell? ⟨g + 1, 3, none⟩ = some (.int .i64 t) := cell_of_row _ _ 3 _ _ (0, 0) HRS.out
      have s4 : W5.cell? ⟨g + 1, 4, none⟩ = some (.slice A1 n1 k1) := cell_of_row _ _ 4 _ _ (0, 0) HRS.out
      have s5 : W5.cell? ⟨g + 1, 5, none⟩ = some (.slice A2 n2 k2) := cell_of_row _ _ 5 _ _ (0, 0) HRS.out
      have s6 : W5.cell? ⟨g + 1, 6, none⟩ = some (.int .i64 kd) := cell_of_row _ _ 6 _ _ (0, 0) HRS.out
      have s7 : W5.cell? ⟨g + 1, 7, none⟩ = some (.int .i64 bc) := cell_of_row _ _ 7 _ _ (0, 0) HRS.out
      have s8 : W5.cell? ⟨g + 1, 8, none⟩ = some (.string (valOf bi)) := cell_of_row _ _ 8 _ _ (0, 0) HRS.out
      have s9 : W5.cell? ⟨g + 1, 9, none⟩ = some (.int .i64 pc) := cell_of_row _ _ 9 _ _ (0, 0) HRS.out
      have s10 : W5.cell? ⟨g + 1, 10, none⟩ = some (.string (valOf pi)) := cell_of_row _ _ 10 _ _ (0, 0) HRS.out
      have s11 : W5.cell? ⟨g + 1, 11, none⟩ = some (.int .i64 qc) := cell_of_row _ _ 11 _ _ (0, 0) HRS.out
      have s12 : W5.cell? ⟨g + 1, 12, none⟩ = some (.string (valOf qi)) := cell_of_row _ _ 12 _ _ (0, 0) HRS.out
      have s13 : W5.cell? ⟨g + 1, 13, none⟩ = some (.int .i64 lo) := cell_of_row _ _ 13 _ _ (0, 0) HRS.out
      have s14 : W5.cell? ⟨g + 1, 14, none⟩ = some (.int .i64 hi) := cell_of_row _ _ 14 _ _ (0, 0) HRS.out
      refine bodyPost_ret (v := .tuple #[.agg #[.int .i64 nd, .int .i64 sl, .int .i64 sq, .int .i64 t, .slice A1 n1 k1, .slice A2 n2 k2, .int .i64 kd, .int .i64 bc, .string (valOf bi), .int .i64 pc, .string (valOf pi), .int .i64 qc, .string (valOf qi), .int .i64 lo, .int .i64 hi], .bool false]) ?_ rfl ⟨rfl, by rw [HG.out]; exact HBL.out⟩
      simp [results, Try.results70, go_sem, s0, s1, s2, s3, s4, s5, s6, s7, s8, s9, s10, s11, s12, s13, s14]
    · --h2 f
      have h2D := Lib.hid (show decide (lo = 0) = false by simpa using h2)
      have h2f0 : (lo != 0) = true := by first | (rw [decide_eq_false_iff_not]; omega) | (rw [decide_eq_true_iff]; omega) | (rw [bne_iff_ne]; omega) | (rw [beq_iff_eq]; omega) | (rw [beq_eq_false_iff_ne]; omega) | (rw [bne_eq_false_iff_eq]; omega)
      clear h2
      by_cases h3 : lo ≤ l
      · --h3 t
        have h3D := Lib.hid (show decide (lo ≤ l) = true by simpa using h3)
        have h3t0 : decide (lo ≤ l) = true := by first | (rw [decide_eq_false_iff_not]; omega) | (rw [decide_eq_true_iff]; omega) | (rw [bne_iff_ne]; omega) | (rw [beq_iff_eq]; omega) | (rw [beq_eq_false_iff_ne]; omega) | (rw [bne_eq_false_iff_eq]; omega)
        by_cases h4 : 1 ≤ l
        · --h4 t
          have h4D := Lib.hid (show decide (1 ≤ l) = true by simpa using h4)
          have h4t0 : decide (1 ≤ l) = true := by first | (rw [decide_eq_false_iff_not]; omega) | (rw [decide_eq_true_iff]; omega) | (rw [bne_iff_ne]; omega) | (rw [beq_iff_eq]; omega) | (rw [beq_eq_false_iff_ne]; omega) | (rw [bne_eq_false_iff_eq]; omega)
          by_cases h5 : l ≤ h
          · --h5 t
            have h5D := Lib.hid (show decide (l ≤ h) = true by simpa using h5)
            have h5t0 : decide (l ≤ h) = true := by first | (rw [decide_eq_false_iff_not]; omega) | (rw [decide_eq_true_iff]; omega) | (rw [bne_iff_ne]; omega) | (rw [beq_iff_eq]; omega) | (rw [beq_eq_false_iff_ne]; omega) | (rw [bne_eq_false_iff_eq]; omega)
            obtain rfl : true = R := by rw [← HR.out]; unfold spB; symm; first | (simp only [h1D.out, h2D.out, h3D.out, h3, h4D.out, h4, h5D.out, h5, Bool.false_eq_true, if_false, if_true, Bool.not_true, Bool.not_false, Bool.and_true, Bool.true_and, Bool.and_false, Bool.false_and, Bool.or_false, Bool.or_true, Bool.false_or, Bool.true_or]; done) | (simp [h1D.out, h2D.out, h3D.out, h3, h4D.out, h4, h5D.out, h5]; done)
            clear HR
            have x0 : W2.cell? ⟨r, 0, none⟩ = some (.int .i64 nd) := cell_of_row _ _ 0 _ _ (0, 0) J2.out.e
            have x1 : W2.cell? ⟨r, 1, none⟩ = some (.int .i64 sl) := cell_of_row _ _ 1 _ _ (0, 0) J2.out.e
            have x2 : W2.cell? ⟨r, 2, none⟩ = some (.int .i64 sq) := cell_of_row _ _ 2 _ _ (0, 0) J2.out.e
            have x3 : W2.cell? ⟨r, 3, none⟩ = some (.int .i64 t) := cell_of_row _ _ 3 _ _ (0, 0) J2.out.e
            have x4 : W2.cell? ⟨r, 4, none⟩ = some (.slice A1 n1 k1) := cell_of_row _ _ 4 _ _ (0, 0) J2.out.e
            have x5 : W2.cell? ⟨r, 5, none⟩ = some (.slice A2 n2 k2) := cell_of_row _ _ 5 _ _ (0, 0) J2.out.e
            have x6 : W2.cell? ⟨r, 6, none⟩ = some (.int .i64 kd) := cell_of_row _ _ 6 _ _ (0, 0) J2.out.e
            have x7 : W2.cell? ⟨r, 7, none⟩ = some (.int .i64 bc) := cell_of_row _ _ 7 _ _ (0, 0) J2.out.e
            have x8 : W2.cell? ⟨r, 8, none⟩ = some (.string (valOf bi)) := cell_of_row _ _ 8 _ _ (0, 0) J2.out.e
            have x9 : W2.cell? ⟨r, 9, none⟩ = some (.int .i64 pc) := cell_of_row _ _ 9 _ _ (0, 0) J2.out.e
            have x10 : W2.cell? ⟨r, 10, none⟩ = some (.string (valOf pi)) := cell_of_row _ _ 10 _ _ (0, 0) J2.out.e
            have x11 : W2.cell? ⟨r, 11, none⟩ = some (.int .i64 qc) := cell_of_row _ _ 11 _ _ (0, 0) J2.out.e
            have x12 : W2.cell? ⟨r, 12, none⟩ = some (.string (valOf qi)) := cell_of_row _ _ 12 _ _ (0, 0) J2.out.e
            have x13 : W2.cell? ⟨r, 13, none⟩ = some (.int .i64 lo) := cell_of_row _ _ 13 _ _ (0, 0) J2.out.e
            have x14 : W2.cell? ⟨r, 14, none⟩ = some (.int .i64 hi) := cell_of_row _ _ 14 _ _ (0, 0) J2.out.e
            have r0 : W2.cell? ⟨g + 1, 0, none⟩ = some (.int .i64 0) := cell_of_row _ _ 0 _ _ (0, 0) HRes.out
            have r1 : W2.cell? ⟨g + 1, 1, none⟩ = some (.int .i64 0) := cell_of_row _ _ 1 _ _ (0, 0) HRes.out
            have r2 : W2.cell? ⟨g + 1, 2, none⟩ = some (.int .i64 0) := cell_of_row _ _ 2 _ _ (0, 0) HRes.out
            have r3 : W2.cell? ⟨g + 1, 3, none⟩ = some (.int .i64 0) := cell_of_row _ _ 3 _ _ (0, 0) HRes.out
            have r4 : W2.cell? ⟨g + 1, 4, none⟩ = some (.slice none 0 0) := cell_of_row _ _ 4 _ _ (0, 0) HRes.out
            have r5 : W2.cell? ⟨g + 1, 5, none⟩ = some (.slice none 0 0) := cell_of_row _ _ 5 _ _ (0, 0) HRes.out
            have r6 : W2.cell? ⟨g + 1, 6, none⟩ = some (.int .i64 0) := cell_of_row _ _ 6 _ _ (0, 0) HRes.out
            have r7 : W2.cell? ⟨g + 1, 7, none⟩ = some (.int .i64 0) := cell_of_row _ _ 7 _ _ (0, 0) HRes.out
            have r8 : W2.cell? ⟨g + 1, 8, none⟩ = some (.string ⟨#[]⟩) := cell_of_row _ _ 8 _ _ (0, 0) HRes.out
            have r9 : W2.cell? ⟨g + 1, 9, none⟩ = some (.int .i64 0) := cell_of_row _ _ 9 _ _ (0, 0) HRes.out
            have r10 : W2.cell? ⟨g + 1, 10, none⟩ = some (.string ⟨#[]⟩) := cell_of_row _ _ 10 _ _ (0, 0) HRes.out
            have r11 : W2.cell? ⟨g + 1, 11, none⟩ = some (.int .i64 0) := cell_of_row _ _ 11 _ _ (0, 0) HRes.out
            have r12 : W2.cell? ⟨g + 1, 12, none⟩ = some (.string ⟨#[]⟩) := cell_of_row _ _ 12 _ _ (0, 0) HRes.out
            have r13 : W2.cell? ⟨g + 1, 13, none⟩ = some (.int .i64 0) := cell_of_row _ _ 13 _ _ (0, 0) HRes.out
            have r14 : W2.cell? ⟨g + 1, 14, none⟩ = some (.int .i64 0) := cell_of_row _ _ 14 _ _ (0, 0) HRes.out
            have f0 : W2.frozen? ⟨g + 1, 0, none⟩ = false := by have := HRes.out; simp [World.frozen?, this]
            have f1 : W2.frozen? ⟨g + 1, 1, none⟩ = false := by have := HRes.out; simp [World.frozen?, this]
            have f2 : W2.frozen? ⟨g + 1, 2, none⟩ = false := by have := HRes.out; simp [World.frozen?, this]
            have f3 : W2.frozen? ⟨g + 1, 3, none⟩ = false := by have := HRes.out; simp [World.frozen?, this]
            have f4 : W2.frozen? ⟨g + 1, 4, none⟩ = false := by have := HRes.out; simp [World.frozen?, this]
            have f5 : W2.frozen? ⟨g + 1, 5, none⟩ = false := by have := HRes.out; simp [World.frozen?, this]
            have f6 : W2.frozen? ⟨g + 1, 6, none⟩ = false := by have := HRes.out; simp [World.frozen?, this]
            have f7 : W2.frozen? ⟨g + 1, 7, none⟩ = false := by have := HRes.out; simp [World.frozen?, this]
            have f8 : W2.frozen? ⟨g + 1, 8, none⟩ = false := by have := HRes.out; simp [World.frozen?, this]
            have f9 : W2.frozen? ⟨g + 1, 9, none⟩ = false := by have := HRes.out; simp [World.frozen?, this]
            have f10 : W2.frozen? ⟨g + 1, 10, none⟩ = false := by have := HRes.out; simp [World.frozen?, this]
            have f11 : W2.frozen? ⟨g + 1, 11, none⟩ = false := by have := HRes.out; simp [World.frozen?, this]
            have f12 : W2.frozen? ⟨g + 1, 12, none⟩ = false := by have := HRes.out; simp [World.frozen?, this]
            have f13 : W2.frozen? ⟨g + 1, 13, none⟩ = false := by have := HRes.out; simp [World.frozen?, this]
            have f14 : W2.frozen? ⟨g + 1, 14, none⟩ = false := by have := HRes.out; simp [World.frozen?, this]
            have hgl := heapLt HRes.out
            have HRS := Lib.hid (set15 HRes.out (.int .i64 nd) (.int .i64 sl) (.int .i64 sq) (.int .i64 t) (.slice A1 n1 k1) (.slice A2 n2 k2) (.int .i64 kd) (.int .i64 bc) (.string (valOf bi)) (.int .i64 pc) (.string (valOf pi)) (.int .i64 qc) (.string (valOf qi)) (.int .i64 lo) (.int .i64 hi))
            have HBL := Lib.hid (bel15 (g + 1) (by omega) J2.out.bel (.int .i64 nd) (.int .i64 sl) (.int .i64 sq) (.int .i64 t) (.slice A1 n1 k1) (.slice A2 n2 k2) (.int .i64 kd) (.int .i64 bc) (.string (valOf bi)) (.int .i64 pc) (.string (valOf pi)) (.int .i64 qc) (.string (valOf qi)) (.int .i64 lo) (.int .i64 hi))
            go_wp2_with fail
            generalize (((((((((((((((W2.setCell ⟨g + 1, 0, none⟩ (.int .i64 nd)).setCell ⟨g + 1, 1, none⟩ (.int .i64 sl)).setCell ⟨g + 1, 2, none⟩ (.int .i64 sq)).setCell ⟨g + 1, 3, none⟩ (.int .i64 t)).setCell ⟨g + 1, 4, none⟩ (.slice A1 n1 k1)).setCell ⟨g + 1, 5, none⟩ (.slice A2 n2 k2)).setCell ⟨g + 1, 6, none⟩ (.int .i64 kd)).setCell ⟨g + 1, 7, none⟩ (.int .i64 bc)).setCell ⟨g + 1, 8, none⟩ (.string (valOf bi))).setCell ⟨g + 1, 9, none⟩ (.int .i64 pc)).setCell ⟨g + 1, 10, none⟩ (.string (valOf pi))).setCell ⟨g + 1, 11, none⟩ (.int .i64 qc)).setCell ⟨g + 1, 12, none⟩ (.string (valOf qi))).setCell ⟨g + 1, 13, none⟩ (.int .i64 lo)).setCell ⟨g + 1, 14, none⟩ (.int .i64 hi)) = W5 at *
            have s0 : W5.cell? ⟨g + 1, 0, none⟩ = some (.int .i64 nd) := cell_of_row _ _ 0 _ _ (0, 0) HRS.out
            have s1 : W5.cell? ⟨g + 1, 1, none⟩ = some (.int .i64 sl) := cell_of_row _ _ 1 _ _ (0, 0) HRS.out
            have s2 : W5.cell? ⟨g + 1, 2, none⟩ = some (.int .i64 sq) := cell_of_row _ _ 2 _ _ (0, 0) HRS.out
            have s3 : W5.cell? ⟨g + 1, 3, none⟩ = some (.int .i64 t) := cell_of_row _ _ 3 _ _ (0, 0) HRS.out
            have s4 : W5.cell? ⟨g + 1, 4, none⟩ = some (.slice A1 n1 k1) := cell_of_row _ _ 4 _ _ (0, 0) HRS.out
            have s5 : W5.cell? ⟨g + 1, 5, none⟩ = some (.slice A2 n2 k2) := cell_of_row _ _ 5 _ _ (0, 0) HRS.out
            have s6 : W5.cell? ⟨g + 1, 6, none⟩ = some (.int .i64 kd) := cell_of_row _ _ 6 _ _ (0, 0) HRS.out
            have s7 : W5.cell? ⟨g + 1, 7, none⟩ = some (.int .i64 bc) := cell_of_row _ _ 7 _ _ (0, 0) HRS.out
            have s8 : W5.cell? ⟨g + 1, 8, none⟩ = some (.string (valOf bi)) := cell_of_row _ _ 8 _ _ (0, 0) HRS.out
            have s9 : W5.cell? ⟨g + 1, 9, none⟩ = some (.int .i64 pc) := cell_of_row _ _ 9 _ _ (0, 0) HRS.out
            have s10 : W5.cell? ⟨g + 1, 10, none⟩ = some (.string (valOf pi)) := cell_of_row _ _ 10 _ _ (0, 0) HRS.out
            have s11 : W5.cell? ⟨g + 1, 11, none⟩ = some (.int .i64 qc) := cell_of_row _ _ 11 _ _ (0, 0) HRS.out
            have s12 : W5.cell? ⟨g + 1, 12, none⟩ = some (.string (valOf qi)) := cell_of_row _ _ 12 _ _ (0, 0) HRS.out
            have s13 : W5.cell? ⟨g + 1, 13, none⟩ = some (.int .i64 lo) := cell_of_row _ _ 13 _ _ (0, 0) HRS.out
            have s14 : W5.cell? ⟨g + 1, 14, none⟩ = some (.int .i64 hi) := cell_of_row _ _ 14 _ _ (0, 0) HRS.out
            refine bodyPost_ret (v := .tuple #[.agg #[.int .i64 nd, .int .i64 sl, .int .i64 sq, .int .i64 t, .slice A1 n1 k1, .slice A2 n2 k2, .int .i64 kd, .int .i64 bc, .string (valOf bi), .int .i64 pc, .string (valOf pi), .int .i64 qc, .string (valOf qi), .int .i64 lo, .int .i64 hi], .bool true]) ?_ rfl ⟨rfl, by rw [HG.out]; exact HBL.out⟩
            simp [results, Try.results70, go_sem, s0, s1, s2, s3, s4, s5, s6, s7, s8, s9, s10, s11, s12, s13, s14]
          · --h5 f
            have h5D := Lib.hid (show decide (l ≤ h) = false by simpa using h5)
            have h5f0 : decide (l ≤ h) = false := by first | (rw [decide_eq_false_iff_not]; omega) | (rw [decide_eq_true_iff]; omega) | (rw [bne_iff_ne]; omega) | (rw [beq_iff_eq]; omega) | (rw [beq_eq_false_iff_ne]; omega) | (rw [bne_eq_false_iff_eq]; omega)
            obtain rfl : false = R := by rw [← HR.out]; unfold spB; symm; first | (simp only [h1D.out, h2D.out, h3D.out, h3, h4D.out, h4, h5D.out, h5, Bool.false_eq_true, if_false, if_true, Bool.not_true, Bool.not_false, Bool.and_true, Bool.true_and, Bool.and_false, Bool.false_and, Bool.or_false, Bool.or_true, Bool.false_or, Bool.true_or]; done) | (simp [h1D.out, h2D.out, h3D.out, h3, h4D.out, h4, h5D.out, h5]; done)
            clear HR
            have x0 : W2.cell? ⟨r, 0, none⟩ = some (.int .i64 nd) := cell_of_row _ _ 0 _ _ (0, 0) J2.out.e
            have x1 : W2.cell? ⟨r, 1, none⟩ = some (.int .i64 sl) := cell_of_row _ _ 1 _ _ (0, 0) J2.out.e
            have x2 : W2.cell? ⟨r, 2, none⟩ = some (.int .i64 sq) := cell_of_row _ _ 2 _ _ (0, 0) J2.out.e
            have x3 : W2.cell? ⟨r, 3, none⟩ = some (.int .i64 t) := cell_of_row _ _ 3 _ _ (0, 0) J2.out.e
            have x4 : W2.cell? ⟨r, 4, none⟩ = some (.slice A1 n1 k1) := cell_of_row _ _ 4 _ _ (0, 0) J2.out.e
            have x5 : W2.cell? ⟨r, 5, none⟩ = some (.slice A2 n2 k2) := cell_of_row _ _ 5 _ _ (0, 0) J2.out.e
            have x6 : W2.cell? ⟨r, 6, none⟩ = some (.int .i64 kd) := cell_of_row _ _ 6 _ _ (0, 0) J2.out.e
            have x7 : W2.cell? ⟨r, 7, none⟩ = some (.int .i64 bc) := cell_of_row _ _ 7 _ _ (0, 0) J2.out.e
            have x8 : W2.cell? ⟨r, 8, none⟩ = some (.string (valOf bi)) := cell_of_row _ _ 8 _ _ (0, 0) J2.out.e
            have x9 : W2.cell? ⟨r, 9, none⟩ = some (.int .i64 pc) := cell_of_row _ _ 9 _ _ (0, 0) J2.out.e
            have x10 : W2.cell? ⟨r, 10, none⟩ = some (.string (valOf pi)) := cell_of_row _ _ 10 _ _ (0, 0) J2.out.e
            have x11 : W2.cell? ⟨r, 11, none⟩ = some (.int .i64 qc) := cell_of_row _ _ 11 _ _ (0, 0) J2.out.e
            have x12 : W2.cell? ⟨r, 12, none⟩ = some (.string (valOf qi)) := cell_of_row _ _ 12 _ _ (0, 0) J2.out.e
            have x13 : W2.cell? ⟨r, 13, none⟩ = some (.int .i64 lo) := cell_of_row _ _ 13 _ _ (0, 0) J2.out.e
            have x14 : W2.cell? ⟨r, 14, none⟩ = some (.int .i64 hi) := cell_of_row _ _ 14 _ _ (0, 0) J2.out.e
            have r0 : W2.cell? ⟨g + 1, 0, none⟩ = some (.int .i64 0) := cell_of_row _ _ 0 _ _ (0, 0) HRes.out
            have r1 : W2.cell? ⟨g + 1, 1, none⟩ = some (.int .i64 0) := cell_of_row _ _ 1 _ _ (0, 0) HRes.out
            have r2 : W2.cell? ⟨g + 1, 2, none⟩ = some (.int .i64 0) := cell_of_row _ _ 2 _ _ (0, 0) HRes.out
            have r3 : W2.cell? ⟨g + 1, 3, none⟩ = some (.int .i64 0) := cell_of_row _ _ 3 _ _ (0, 0) HRes.out
            have r4 : W2.cell? ⟨g + 1, 4, none⟩ = some (.slice none 0 0) := cell_of_row _ _ 4 _ _ (0, 0) HRes.out
            have r5 : W2.cell? ⟨g + 1, 5, none⟩ = some (.slice none 0 0) := cell_of_row _ _ 5 _ _ (0, 0) HRes.out
            have r6 : W2.cell? ⟨g + 1, 6, none⟩ = some (.int .i64 0) := cell_of_row _ _ 6 _ _ (0, 0) HRes.out
            have r7 : W2.cell? ⟨g + 1, 7, none⟩ = some (.int .i64 0) := cell_of_row _ _ 7 _ _ (0, 0) HRes.out
            have r8 : W2.cell? ⟨g + 1, 8, none⟩ = some (.string ⟨#[]⟩) := cell_of_row _ _ 8 _ _ (0, 0) HRes.out
            have r9 : W2.cell? ⟨g + 1, 9, none⟩ = some (.int .i64 0) := cell_of_row _ _ 9 _ _ (0, 0) HRes.out
            have r10 : W2.cell? ⟨g + 1, 10, none⟩ = some (.string ⟨#[]⟩) := cell_of_row _ _ 10 _ _ (0, 0) HRes.out
            have r11 : W2.cell? ⟨g + 1, 11, none⟩ = some (.int .i64 0) := cell_of_row _ _ 11 _ _ (0, 0) HRes.out
            have r12 : W2.cell? ⟨g + 1, 12, none⟩ = some (.string ⟨#[]⟩) := cell_of_row _ _ 12 _ _ (0, 0) HRes.out
            have r13 : W2.cell? ⟨g + 1, 13, none⟩ = some (.int .i64 0) := cell_of_row _ _ 13 _ _ (0, 0) HRes.out
            have r14 : W2.cell? ⟨g + 1, 14, none⟩ = some (.int .i64 0) := cell_of_row _ _ 14 _ _ (0, 0) HRes.out
            have f0 : W2.frozen? ⟨g + 1, 0, none⟩ = false := by have := HRes.out; simp [World.frozen?, this]
            have f1 : W2.frozen? ⟨g + 1, 1, none⟩ = false := by have := HRes.out; simp [World.frozen?, this]
            have f2 : W2.frozen? ⟨g + 1, 2, none⟩ = false := by have := HRes.out; simp [World.frozen?, this]
            have f3 : W2.frozen? ⟨g + 1, 3, none⟩ = false := by have := HRes.out; simp [World.frozen?, this]
            have f4 : W2.frozen? ⟨g + 1, 4, none⟩ = false := by have := HRes.out; simp [World.frozen?, this]
            have f5 : W2.frozen? ⟨g + 1, 5, none⟩ = false := by have := HRes.out; simp [World.frozen?, this]
            have f6 : W2.frozen? ⟨g + 1, 6, none⟩ = false := by have := HRes.out; simp [World.frozen?, this]
            have f7 : W2.frozen? ⟨g + 1, 7, none⟩ = false := by have := HRes.out; simp [World.frozen?, this]
            have f8 : W2.frozen? ⟨g + 1, 8, none⟩ = false := by have := HRes.out; simp [World.frozen?, this]
            have f9 : W2.frozen? ⟨g + 1, 9, none⟩ = false := by have := HRes.out; simp [World.frozen?, this]
            have f10 : W2.frozen? ⟨g + 1, 10, none⟩ = false := by have := HRes.out; simp [World.frozen?, this]
            have f11 : W2.frozen? ⟨g + 1, 11, none⟩ = false := by have := HRes.out; simp [World.frozen?, this]
            have f12 : W2.frozen? ⟨g + 1, 12, none⟩ = false := by have := HRes.out; simp [World.frozen?, this]
            have f13 : W2.frozen? ⟨g + 1, 13, none⟩ = false := by have := HRes.out; simp [World.frozen?, this]
            have f14 : W2.frozen? ⟨g + 1, 14, none⟩ = false := by have := HRes.out; simp [World.frozen?, this]
            have hgl := heapLt HRes.out
            have HRS := Lib.hid (set15 HRes.out (.int .i64 nd) (.int .i64 sl) (.int .i64 sq) (.int .i64 t) (.slice A1 n1 k1) (.slice A2 n2 k2) (.int .i64 kd) (.int .i64 bc) (.string (valOf bi)) (.int .i64 pc) (.string (valOf pi)) (.int .i64 qc) (.string (valOf qi)) (.int .i64 lo) (.int .i64 hi))
            have HBL := Lib.hid (bel15 (g + 1) (by omega) J2.out.bel (.int .i64 nd) (.int .i64 sl) (.int .i64 sq) (.int .i64 t) (.slice A1 n1 k1) (.slice A2 n2 k2) (.int .i64 kd) (.int .i64 bc) (.string (valOf bi)) (.int .i64 pc) (.string (valOf pi)) (.int .i64 qc) (.string (valOf qi)) (.int .i64 lo) (.int .i64 hi))
            go_wp2_with fail
            generalize (((((((((((((((W2.setCell ⟨g + 1, 0, none⟩ (.int .i64 nd)).setCell ⟨g + 1, 1, none⟩ (.int .i64 sl)).setCell ⟨g + 1, 2, none⟩ (.int .i64 sq)).setCell ⟨g + 1, 3, none⟩ (.int .i64 t)).setCell ⟨g + 1, 4, none⟩ (.slice A1 n1 k1)).setCell ⟨g + 1, 5, none⟩ (.slice A2 n2 k2)).setCell ⟨g + 1, 6, none⟩ (.int .i64 kd)).setCell ⟨g + 1, 7, none⟩ (.int .i64 bc)).setCell ⟨g + 1, 8, none⟩ (.string (valOf bi))).setCell ⟨g + 1, 9, none⟩ (.int .i64 pc)).setCell ⟨g + 1, 10, none⟩ (.string (valOf pi))).setCell ⟨g + 1, 11, none⟩ (.int .i64 qc)).setCell ⟨g + 1, 12, none⟩ (.string (valOf qi))).setCell ⟨g + 1, 13, none⟩ (.int .i64 lo)).setCell ⟨g + 1, 14, none⟩ (.int .i64 hi)) = W5 at *
            have s0 : W5.cell? ⟨g + 1, 0, none⟩ = some (.int .i64 nd) := cell_of_row _ _ 0 _ _ (0, 0) HRS.out
            have s1 : W5.cell? ⟨g + 1, 1, none⟩ = some (.int .i64 sl) := cell_of_row _ _ 1 _ _ (0, 0) HRS.out
            have s2 : W5.cell? ⟨g + 1, 2, none⟩ = some (.int .i64 sq) := cell_of_row _ _ 2 _ _ (0, 0) HRS.out
            have s3 : W5.cell? ⟨g + 1, 3, none⟩ = some (.int .i64 t) := cell_of_row _ _ 3 _ _ (0, 0) HRS.out
            have s4 : W5.cell? ⟨g + 1, 4, none⟩ = some (.slice A1 n1 k1) := cell_of_row _ _ 4 _ _ (0, 0) HRS.out
            have s5 : W5.cell? ⟨g + 1, 5, none⟩ = some (.slice A2 n2 k2) := cell_of_row _ _ 5 _ _ (0, 0) HRS.out
            have s6 : W5.cell? ⟨g + 1, 6, none⟩ = some (.int .i64 kd) := cell_of_row _ _ 6 _ _ (0, 0) HRS.out
            have s7 : W5.cell? ⟨g + 1, 7, none⟩ = some (.int .i64 bc) := cell_of_row _ _ 7 _ _ (0, 0) HRS.out
            have s8 : W5.cell? ⟨g + 1, 8, none⟩ = some (.string (valOf bi)) := cell_of_row _ _ 8 _ _ (0, 0) HRS.out
            have s9 : W5.cell? ⟨g + 1, 9, none⟩ = some (.int .i64 pc) := cell_of_row _ _ 9 _ _ (0, 0) HRS.out
            have s10 : W5.cell? ⟨g + 1, 10, none⟩ = some (.string (valOf pi)) := cell_of_row _ _ 10 _ _ (0, 0) HRS.out
            have s11 : W5.cell? ⟨g + 1, 11, none⟩ = some (.int .i64 qc) := cell_of_row _ _ 11 _ _ (0, 0) HRS.out
            have s12 : W5.cell? ⟨g + 1, 12, none⟩ = some (.string (valOf qi)) := cell_of_row _ _ 12 _ _ (0, 0) HRS.out
            have s13 : W5.cell? ⟨g + 1, 13, none⟩ = some (.int .i64 lo) := cell_of_row _ _ 13 _ _ (0, 0) HRS.out
            have s14 : W5.cell? ⟨g + 1, 14, none⟩ = some (.int .i64 hi) := cell_of_row _ _ 14 _ _ (0, 0) HRS.out
            refine bodyPost_ret (v := .tuple #[.agg #[.int .i64 nd, .int .i64 sl, .int .i64 sq, .int .i64 t, .slice A1 n1 k1, .slice A2 n2 k2, .int .i64 kd, .int .i64 bc, .string (valOf bi), .int .i64 pc, .string (valOf pi), .int .i64 qc, .string (valOf qi), .int .i64 lo, .int .i64 hi], .bool false]) ?_ rfl ⟨rfl, by rw [HG.out]; exact HBL.out⟩
            simp [results, Try.results70, go_sem, s0, s1, s2, s3, s4, s5, s6, s7, s8, s9, s10, s11, s12, s13, s14]
        · --h4 f
          have h4D := Lib.hid (show decide (1 ≤ l) = false by simpa using h4)
          have h4f0 : decide (1 ≤ l) = false := by first | (rw [decide_eq_false_iff_not]; omega) | (rw [decide_eq_true_iff]; omega) | (rw [bne_iff_ne]; omega) | (rw [beq_iff_eq]; omega) | (rw [beq_eq_false_iff_ne]; omega) | (rw [bne_eq_false_iff_eq]; omega)
          obtain rfl : false = R := by rw [← HR.out]; unfold spB; symm; first | (simp only [h1D.out, h2D.out, h3D.out, h3, h4D.out, h4, Bool.false_eq_true, if_false, if_true, Bool.not_true, Bool.not_false, Bool.and_true, Bool.true_and, Bool.and_false, Bool.false_and, Bool.or_false, Bool.or_true, Bool.false_or, Bool.true_or]; done) | (simp [h1D.out, h2D.out, h3D.out, h3, h4D.out, h4]; done)
          clear HR
          have x0 : W2.cell? ⟨r, 0, none⟩ = some (.int .i64 nd) := cell_of_row _ _ 0 _ _ (0, 0) J2.out.e
          have x1 : W2.cell? ⟨r, 1, none⟩ = some (.int .i64 sl) := cell_of_row _ _ 1 _ _ (0, 0) J2.out.e
          have x2 : W2.cell? ⟨r, 2, none⟩ = some (.int .i64 sq) := cell_of_row _ _ 2 _ _ (0, 0) J2.out.e
          have x3 : W2.cell? ⟨r, 3, none⟩ = some (.int .i64 t) := cell_of_row _ _ 3 _ _ (0, 0) J2.out.e
          have x4 : W2.cell? ⟨r, 4, none⟩ = some (.slice A1 n1 k1) := cell_of_row _ _ 4 _ _ (0, 0) J2.out.e
          have x5 : W2.cell? ⟨r, 5, none⟩ = some (.slice A2 n2 k2) := cell_of_row _ _ 5 _ _ (0, 0) J2.out.e
          have x6 : W2.cell? ⟨r, 6, none⟩ = some (.int .i64 kd) := cell_of_row _ _ 6 _ _ (0, 0) J2.out.e
          have x7 : W2.cell? ⟨r, 7, none⟩ = some (.int .i64 bc) := cell_of_row _ _ 7 _ _ (0, 0) J2.out.e
          have x8 : W2.cell? ⟨r, 8, none⟩ = some (.string (valOf bi)) := cell_of_row _ _ 8 _ _ (0, 0) J2.out.e
          have x9 : W2.cell? ⟨r, 9, none⟩ = some (.int .i64 pc) := cell_of_row _ _ 9 _ _ (0, 0) J2.out.e
          have x10 : W2.cell? ⟨r, 10, none⟩ = some (.string (valOf pi)) := cell_of_row _ _ 10 _ _ (0, 0) J2.out.e
          have x11 : W2.cell? ⟨r, 11, none⟩ = some (.int .i64 qc) := cell_of_row _ _ 11 _ _ (0, 0) J2.out.e
          have x12 : W2.cell? ⟨r, 12, none⟩ = some (.string (valOf qi)) := cell_of_row _ _ 12 _ _ (0, 0) J2.out.e
          have x13 : W2.cell? ⟨r, 13, none⟩ = some (.int .i64 lo) := cell_of_row _ _ 13 _ _ (0, 0) J2.out.e
          have x14 : W2.cell? ⟨r, 14, none⟩ = some (.int .i64 hi) := cell_of_row _ _ 14 _ _ (0, 0) J2.out.e
          have r0 : W2.cell? ⟨g + 1, 0, none⟩ = some (.int .i64 0) := cell_of_row _ _ 0 _ _ (0, 0) HRes.out
          have r1 : W2.cell? ⟨g + 1, 1, none⟩ = some (.int .i64 0) := cell_of_row _ _ 1 _ _ (0, 0) HRes.out
          have r2 : W2.cell? ⟨g + 1, 2, none⟩ = some (.int .i64 0) := cell_of_row _ _ 2 _ _ (0, 0) HRes.out
          have r3 : W2.cell? ⟨g + 1, 3, none⟩ = some (.int .i64 0) := cell_of_row _ _ 3 _ _ (0, 0) HRes.out
          have r4 : W2.cell? ⟨g + 1, 4, none⟩ = some (.slice none 0 0) := cell_of_row _ _ 4 _ _ (0, 0) HRes.out
          have r5 : W2.cell? ⟨g + 1, 5, none⟩ = some (.slice none 0 0) := cell_of_row _ _ 5 _ _ (0, 0) HRes.out
          have r6 : W2.cell? ⟨g + 1, 6, none⟩ = some (.int .i64 0) := cell_of_row _ _ 6 _ _ (0, 0) HRes.out
          have r7 : W2.cell? ⟨g + 1, 7, none⟩ = some (.int .i64 0) := cell_of_row _ _ 7 _ _ (0, 0) HRes.out
          have r8 : W2.cell? ⟨g + 1, 8, none⟩ = some (.string ⟨#[]⟩) := cell_of_row _ _ 8 _ _ (0, 0) HRes.out
          have r9 : W2.cell? ⟨g + 1, 9, none⟩ = some (.int .i64 0) := cell_of_row _ _ 9 _ _ (0, 0) HRes.out
          have r10 : W2.cell? ⟨g + 1, 10, none⟩ = some (.string ⟨#[]⟩) := cell_of_row _ _ 10 _ _ (0, 0) HRes.out
          have r11 : W2.cell? ⟨g + 1, 11, none⟩ = some (.int .i64 0) := cell_of_row _ _ 11 _ _ (0, 0) HRes.out
          have r12 : W2.cell? ⟨g + 1, 12, none⟩ = some (.string ⟨#[]⟩) := cell_of_row _ _ 12 _ _ (0, 0) HRes.out
          have r13 : W2.cell? ⟨g + 1, 13, none⟩ = some (.int .i64 0) := cell_of_row _ _ 13 _ _ (0, 0) HRes.out
          have r14 : W2.cell? ⟨g + 1, 14, none⟩ = some (.int .i64 0) := cell_of_row _ _ 14 _ _ (0, 0) HRes.out
          have f0 : W2.frozen? ⟨g + 1, 0, none⟩ = false := by have := HRes.out; simp [World.frozen?, this]
          have f1 : W2.frozen? ⟨g + 1, 1, none⟩ = false := by have := HRes.out; simp [World.frozen?, this]
          have f2 : W2.frozen? ⟨g + 1, 2, none⟩ = false := by have := HRes.out; simp [World.frozen?, this]
          have f3 : W2.frozen? ⟨g + 1, 3, none⟩ = false := by have := HRes.out; simp [World.frozen?, this]
          have f4 : W2.frozen? ⟨g + 1, 4, none⟩ = false := by have := HRes.out; simp [World.frozen?, this]
          have f5 : W2.frozen? ⟨g + 1, 5, none⟩ = false := by have := HRes.out; simp [World.frozen?, this]
          have f6 : W2.frozen? ⟨g + 1, 6, none⟩ = false := by have := HRes.out; simp [World.frozen?, this]
          have f7 : W2.frozen? ⟨g + 1, 7, none⟩ = false := by have := HRes.out; simp [World.frozen?, this]
          have f8 : W2.frozen? ⟨g + 1, 8, none⟩ = false := by have := HRes.out; simp [World.frozen?, this]
          have f9 : W2.frozen? ⟨g + 1, 9, none⟩ = false := by have := HRes.out; simp [World.frozen?, this]
          have f10 : W2.frozen? ⟨g + 1, 10, none⟩ = false := by have := HRes.out; simp [World.frozen?, this]
          have f11 : W2.frozen? ⟨g + 1, 11, none⟩ = false := by have := HRes.out; simp [World.frozen?, this]
          have f12 : W2.frozen? ⟨g + 1, 12, none⟩ = false := by have := HRes.out; simp [World.frozen?, this]
          have f13 : W2.frozen? ⟨g + 1, 13, none⟩ = false := by have := HRes.out; simp [World.frozen?, this]
          have f14 : W2.frozen? ⟨g + 1, 14, none⟩ = false := by have := HRes.out; simp [World.frozen?, this]
          have hgl := heapLt HRes.out
          have HRS := Lib.hid (set15 HRes.out (.int .i64 nd) (.int .i64 sl) (.int .i64 sq) (.int .i64 t) (.slice A1 n1 k1) (.slice A2 n2 k2) (.int .i64 kd) (.int .i64 bc) (.string (valOf bi)) (.int .i64 pc) (.string (valOf pi)) (.int .i64 qc) (.string (valOf qi)) (.int .i64 lo) (.int .i64 hi))
          have HBL := Lib.hid (bel15 (g + 1) (by omega) J2.out.bel (.int .i64 nd) (.int .i64 sl) (.int .i64 sq) (.int .i64 t) (.slice A1 n1 k1) (.slice A2 n2 k2) (.int .i64 kd) (.int .i64 bc) (.string (valOf bi)) (.int .i64 pc) (.string (valOf pi)) (.int .i64 qc) (.string (valOf qi)) (.int .i64 lo) (.int .i64 hi))
          go_wp2_with fail
          generalize (((((((((((((((W2.setCell ⟨g + 1, 0, none⟩ (.int .i64 nd)).setCell ⟨g + 1, 1, none⟩ (.int .i64 sl)).setCell ⟨g + 1, 2, none⟩ (.int .i64 sq)).setCell ⟨g + 1, 3, none⟩ (.int .i64 t)).setCell ⟨g + 1, 4, none⟩ (.slice A1 n1 k1)).setCell ⟨g + 1, 5, none⟩ (.slice A2 n2 k2)).setCell ⟨g + 1, 6, none⟩ (.int .i64 kd)).setCell ⟨g + 1, 7, none⟩ (.int .i64 bc)).setCell ⟨g + 1, 8, none⟩ (.string (valOf bi))).setCell ⟨g + 1, 9, none⟩ (.int .i64 pc)).setCell ⟨g + 1, 10, none⟩ (.string (valOf pi))).setCell ⟨g + 1, 11, none⟩ (.int .i64 qc)).setCell ⟨g + 1, 12, none⟩ (.string (valOf qi))).setCell ⟨g + 1, 13, none⟩ (.int .i64 lo)).setCell ⟨g + 1, 14, none⟩ (.int .i64 hi)) = W5 at *
          have s0 : W5.cell? ⟨g + 1, 0, none⟩ = some (.int .i64 nd) := cell_of_row _ _ 0 _ _ (0, 0) HRS.out
          have s1 : W5.cell? ⟨g + 1, 1, none⟩ = some (.int .i64 sl) := cell_of_row _ _ 1 _ _ (0, 0) HRS.out
          have s2 : W5.cell? ⟨g + 1, 2, none⟩ = some (.int .i64 sq) := cell_of_row _ _ 2 _ _ (0, 0) HRS.out
          have s3 : W5.cell? ⟨g + 1, 3, none⟩ = some (.int .i64 t) := cell_of_row _ _ 3 _ _ (0, 0) HRS.out
          have s4 : W5.cell? ⟨g + 1, 4, none⟩ = some (.slice A1 n1 k1) := cell_of_row _ _ 4 _ _ (0, 0) HRS.out
          have s5 : W5.cell? ⟨g + 1, 5, none⟩ = some (.slice A2 n2 k2) := cell_of_row _ _ 5 _ _ (0, 0) HRS.out
          have s6 : W5.cell? ⟨g + 1, 6, none⟩ = some (.int .i64 kd) := cell_of_row _ _ 6 _ _ (0, 0) HRS.out
          have s7 : W5.cell? ⟨g + 1, 7, none⟩ = some (.int .i64 bc) := cell_of_row _ _ 7 _ _ (0, 0) HRS.out
          have s8 : W5.cell? ⟨g + 1, 8, none⟩ = some (.string (valOf bi)) := cell_of_row _ _ 8 _ _ (0, 0) HRS.out
          have s9 : W5.cell? ⟨g + 1, 9, none⟩ = some (.int .i64 pc) := cell_of_row _ _ 9 _ _ (0, 0) HRS.out
          have s10 : W5.cell? ⟨g + 1, 10, none⟩ = some (.string (valOf pi)) := cell_of_row _ _ 10 _ _ (0, 0) HRS.out
          have s11 : W5.cell? ⟨g + 1, 11, none⟩ = some (.int .i64 qc) := cell_of_row _ _ 11 _ _ (0, 0) HRS.out
          have s12 : W5.cell? ⟨g + 1, 12, none⟩ = some (.string (valOf qi)) := cell_of_row _ _ 12 _ _ (0, 0) HRS.out
          have s13 : W5.cell? ⟨g + 1, 13, none⟩ = some (.int .i64 lo) := cell_of_row _ _ 13 _ _ (0, 0) HRS.out
          have s14 : W5.cell? ⟨g + 1, 14, none⟩ = some (.int .i64 hi) := cell_of_row _ _ 14 _ _ (0, 0) HRS.out
          refine bodyPost_ret (v := .tuple #[.agg #[.int .i64 nd, .int .i64 sl, .int .i64 sq, .int .i64 t, .slice A1 n1 k1, .slice A2 n2 k2, .int .i64 kd, .int .i64 bc, .string (valOf bi), .int .i64 pc, .string (valOf pi), .int .i64 qc, .string (valOf qi), .int .i64 lo, .int .i64 hi], .bool false]) ?_ rfl ⟨rfl, by rw [HG.out]; exact HBL.out⟩
          simp [results, Try.results70, go_sem, s0, s1, s2, s3, s4, s5, s6, s7, s8, s9, s10, s11, s12, s13, s14]
      · --h3 f
        have h3D := Lib.hid (show decide (lo ≤ l) = false by simpa using h3)
        have h3f0 : decide (lo ≤ l) = false := by first | (rw [decide_eq_false_iff_not]; omega) | (rw [decide_eq_true_iff]; omega) | (rw [bne_iff_ne]; omega) | (rw [beq_iff_eq]; omega) | (rw [beq_eq_false_iff_ne]; omega) | (rw [bne_eq_false_iff_eq]; omega)
        obtain rfl : false = R := by rw [← HR.out]; unfold spB; symm; first | (simp only [h1D.out, h2D.out, h3D.out, h3, Bool.false_eq_true, if_false, if_true, Bool.not_true, Bool.not_false, Bool.and_true, Bool.true_and, Bool.and_false, Bool.false_and, Bool.or_false, Bool.or_true, Bool.false_or, Bool.true_or]; done) | (simp [h1D.out, h2D.out, h3D.out, h3]; done)
        clear HR
        have x0 : W2.cell? ⟨r, 0, none⟩ = some (.int .i64 nd) := cell_of_row _ _ 0 _ _ (0, 0) J2.out.e
        have x1 : W2.cell? ⟨r, 1, none⟩ = some (.int .i64 sl) := cell_of_row _ _ 1 _ _ (0, 0) J2.out.e
        have x2 : W2.cell? ⟨r, 2, none⟩ = some (.int .i64 sq) := cell_of_row _ _ 2 _ _ (0, 0) J2.out.e
        have x3 : W2.cell? ⟨r, 3, none⟩ = some (.int .i64 t) := cell_of_row _ _ 3 _ _ (0, 0) J2.out.e
        have x4 : W2.cell? ⟨r, 4, none⟩ = some (.slice A1 n1 k1) := cell_of_row _ _ 4 _ _ (0, 0) J2.out.e
        have x5 : W2.cell? ⟨r, 5, none⟩ = some (.slice A2 n2 k2) := cell_of_row _ _ 5 _ _ (0, 0) J2.out.e
        have x6 : W2.cell? ⟨r, 6, none⟩ = some (.int .i64 kd) := cell_of_row _ _ 6 _ _ (0, 0) J2.out.e
        have x7 : W2.cell? ⟨r, 7, none⟩ = some (.int .i64 bc) := cell_of_row _ _ 7 _ _ (0, 0) J2.out.e
        have x8 : W2.cell? ⟨r, 8, none⟩ = some (.string (valOf bi)) := cell_of_row _ _ 8 _ _ (0, 0) J2.out.e
        have x9 : W2.cell? ⟨r, 9, none⟩ = some (.int .i64 pc) := cell_of_row _ _ 9 _ _ (0, 0) J2.out.e
        have x10 : W2.cell? ⟨r, 10, none⟩ = some (.string (valOf pi)) := cell_of_row _ _ 10 _ _ (0, 0) J2.out.e
        have x11 : W2.cell? ⟨r, 11, none⟩ = some (.int .i64 qc) := cell_of_row _ _ 11 _ _ (0, 0) J2.out.e
        have x12 : W2.cell? ⟨r, 12, none⟩ = some (.string (valOf qi)) := cell_of_row _ _ 12 _ _ (0, 0) J2.out.e
        have x13 : W2.cell? ⟨r, 13, none⟩ = some (.int .i64 lo) := cell_of_row _ _ 13 _ _ (0, 0) J2.out.e
        have x14 : W2.cell? ⟨r, 14, none⟩ = some (.int .i64 hi) := cell_of_row _ _ 14 _ _ (0, 0) J2.out.e
        have r0 : W2.cell? ⟨g + 1, 0, none⟩ = some (.int .i64 0) := cell_of_row _ _ 0 _ _ (0, 0) HRes.out
        have r1 : W2.cell? ⟨g + 1, 1, none⟩ = some (.int .i64 0) := cell_of_row _ _ 1 _ _ (0, 0) HRes.out
        have r2 : W2.cell? ⟨g + 1, 2, none⟩ = some (.int .i64 0) := cell_of_row _ _ 2 _ _ (0, 0) HRes.out
        have r3 : W2.cell? ⟨g + 1, 3, none⟩ = some (.int .i64 0) := cell_of_row _ _ 3 _ _ (0, 0) HRes.out
        have r4 : W2.cell? ⟨g + 1, 4, none⟩ = some (.slice none 0 0) := cell_of_row _ _ 4 _ _ (0, 0) HRes.out
        have r5 : W2.cell? ⟨g + 1, 5, none⟩ = some (.slice none 0 0) := cell_of_row _ _ 5 _ _ (0, 0) HRes.out
        have r6 : W2.cell? ⟨g + 1, 6, none⟩ = some (.int .i64 0) := cell_of_row _ _ 6 _ _ (0, 0) HRes.out
        have r7 : W2.cell? ⟨g + 1, 7, none⟩ = some (.int .i64 0) := cell_of_row _ _ 7 _ _ (0, 0) HRes.out
        have r8 : W2.cell? ⟨g + 1, 8, none⟩ = some (.string ⟨#[]⟩) := cell_of_row _ _ 8 _ _ (0, 0) HRes.out
        have r9 : W2.cell? ⟨g + 1, 9, none⟩ = some (.int .i64 0) := cell_of_row _ _ 9 _ _ (0, 0) HRes.out
        have r10 : W2.cell? ⟨g + 1, 10, none⟩ = some (.string ⟨#[]⟩) := cell_of_row _ _ 10 _ _ (0, 0) HRes.out
        have r11 : W2.cell? ⟨g + 1, 11, none⟩ = some (.int .i64 0) := cell_of_row _ _ 11 _ _ (0, 0) HRes.out
        have r12 : W2.cell? ⟨g + 1, 12, none⟩ = some (.string ⟨#[]⟩) := cell_of_row _ _ 12 _ _ (0, 0) HRes.out
        have r13 : W2.cell? ⟨g + 1, 13, none⟩ = some (.int .i64 0) := cell_of_row _ _ 13 _ _ (0, 0) HRes.out
        have r14 : W2.cell? ⟨g + 1, 14, none⟩ = some (.int .i64 0) := cell_of_row _ _ 14 _ _ (0, 0) HRes.out
        have f0 : W2.frozen? ⟨g + 1, 0, none⟩ = false := by have := HRes.out; simp [World.frozen?, this]
        have f1 : W2.frozen? ⟨g + 1, 1, none⟩ = false := by have := HRes.out; simp [World.frozen?, this]
        have f2 : W2.frozen? ⟨g + 1, 2, none⟩ = false := by have := HRes.out; simp [World.frozen?, this]
        have f3 : W2.frozen? ⟨g + 1, 3, none⟩ = false := by have := HRes.out; simp [World.frozen?, this]
        have f4 : W2.frozen? ⟨g + 1, 4, none⟩ = false := by have := HRes.out; simp [World.frozen?, this]
        have f5 : W2.frozen? ⟨g + 1, 5, none⟩ = false := by have := HRes.out; simp [World.frozen?, this]
        have f6 : W2.frozen? ⟨g + 1, 6, none⟩ = false := by have := HRes.out; simp [World.frozen?, this]
        have f7 : W2.frozen? ⟨g + 1, 7, none⟩ = false := by have := HRes.out; simp [World.frozen?, this]
        have f8 : W2.frozen? ⟨g + 1, 8, none⟩ = false := by have := HRes.out; simp [World.frozen?, this]
        have f9 : W2.frozen? ⟨g + 1, 9, none⟩ = false := by have := HRes.out; simp [World.frozen?, this]
        have f10 : W2.frozen? ⟨g + 1, 10, none⟩ = false := by have := HRes.out; simp [World.frozen?, this]
        have f11 : W2.frozen? ⟨g + 1, 11, none⟩ = false := by have := HRes.out; simp [World.frozen?, this]
        have f12 : W2.frozen? ⟨g + 1, 12, none⟩ = false := by have := HRes.out; simp [World.frozen?, this]
        have f13 : W2.frozen? ⟨g + 1, 13, none⟩ = false := by have := HRes.out; simp [World.frozen?, this]
        have f14 : W2.frozen? ⟨g + 1, 14, none⟩ = false := by have := HRes.out; simp [World.frozen?, this]
        have hgl := heapLt HRes.out
        have HRS := Lib.hid (set15 HRes.out (.int .i64 nd) (.int .i64 sl) (.int .i64 sq) (.int .i64 t) (.slice A1 n1 k1) (.slice A2 n2 k2) (.int .i64 kd) (.int .i64 bc) (.string (valOf bi)) (.int .i64 pc) (.string (valOf pi)) (.int .i64 qc) (.string (valOf qi)) (.int .i64 lo) (.int .i64 hi))
        have HBL := Lib.hid (bel15 (g + 1) (by omega) J2.out.bel (.int .i64 nd) (.int .i64 sl) (.int .i64 sq) (.int .i64 t) (.slice A1 n1 k1) (.slice A2 n2 k2) (.int .i64 kd) (.int .i64 bc) (.string (valOf bi)) (.int .i64 pc) (.string (valOf pi)) (.int .i64 qc) (.string (valOf qi)) (.int .i64 lo) (.int .i64 hi))
        go_wp2_with fail
        generalize (((((((((((((((W2.setCell ⟨g + 1, 0, none⟩ (.int .i64 nd)).setCell ⟨g + 1, 1, none⟩ (.int .i64 sl)).setCell ⟨g + 1, 2, none⟩ (.int .i64 sq)).setCell ⟨g + 1, 3, none⟩ (.int .i64 t)).setCell ⟨g + 1, 4, none⟩ (.slice A1 n1 k1)).setCell ⟨g + 1, 5, none⟩ (.slice A2 n2 k2)).setCell ⟨g + 1, 6, none⟩ (.int .i64 kd)).setCell ⟨g + 1, 7, none⟩ (.int .i64 bc)).setCell ⟨g + 1, 8, none⟩ (.string (valOf bi))).setCell ⟨g + 1, 9, none⟩ (.int .i64 pc)).setCell ⟨g + 1, 10, none⟩ (.string (valOf pi))).setCell ⟨g + 1, 11, none⟩ (.int .i64 qc)).setCell ⟨g + 1, 12, none⟩ (.string (valOf qi))).setCell ⟨g + 1, 13, none⟩ (.int .i64 lo)).setCell ⟨g + 1, 14, none⟩ (.int .i64 hi)) = W5 at *
        have s0 : W5.cell? ⟨g + 1, 0, none⟩ = some (.int .i64 nd) := cell_of_row _ _ 0 _ _ (0, 0) HRS.out
        have s1 : W5.cell? ⟨g + 1, 1, none⟩ = some (.int .i64 sl) := cell_of_row _ _ 1 _ _ (0, 0) HRS.out
        have s2 : W5.cell? ⟨g + 1, 2, none⟩ = some (.int .i64 sq) := cell_of_row _ _ 2 _ _ (0, 0) HRS.out
        have s3 : W5.cell? ⟨g + 1, 3, none⟩ = some (.int .i64 t) := cell_of_row _ _ 3 _ _ (0, 0) HRS.out
        have s4 : W5.cell? ⟨g + 1, 4, none⟩ = some (.slice A1 n1 k1) := cell_of_row _ _ 4 _ _ (0, 0) HRS.out
        have s5 : W5.cell? ⟨g + 1, 5, none⟩ = some (.slice A2 n2 k2) := cell_of_row _ _ 5 _ _ (0, 0) HRS.out
        have s6 : W5.cell? ⟨g + 1, 6, none⟩ = some (.int .i64 kd) := cell_of_row _ _ 6 _ _ (0, 0) HRS.out
        have s7 : W5.cell? ⟨g + 1, 7, none⟩ = some (.int .i64 bc) := cell_of_row _ _ 7 _ _ (0, 0) HRS.out
        have s8 : W5.cell? ⟨g + 1, 8, none⟩ = some (.string (valOf bi)) := cell_of_row _ _ 8 _ _ (0, 0) HRS.out
        have s9 : W5.cell? ⟨g + 1, 9, none⟩ = some (.int .i64 pc) := cell_of_row _ _ 9 _ _ (0, 0) HRS.out
        have s10 : W5.cell? ⟨g + 1, 10, none⟩ = some (.string (valOf pi)) := cell_of_row _ _ 10 _ _ (0, 0) HRS.out
        have s11 : W5.cell? ⟨g + 1, 11, none⟩ = some (.int .i64 qc) := cell_of_row _ _ 11 _ _ (0, 0) HRS.out
        have s12 : W5.cell? ⟨g + 1, 12, none⟩ = some (.string (valOf qi)) := cell_of_row _ _ 12 _ _ (0, 0) HRS.out
        have s13 : W5.cell? ⟨g + 1, 13, none⟩ = some (.int .i64 lo) := cell_of_row _ _ 13 _ _ (0, 0) HRS.out
        have s14 : W5.cell? ⟨g + 1, 14, none⟩ = some (.int .i64 hi) := cell_of_row _ _ 14 _ _ (0, 0) HRS.out
        refine bodyPost_ret (v := .tuple #[.agg #[.int .i64 nd, .int .i64 sl, .int .i64 sq, .int .i64 t, .slice A1 n1 k1, .slice A2 n2 k2, .int .i64 kd, .int .i64 bc, .string (valOf bi), .int .i64 pc, .string (valOf pi), .int .i64 qc, .string (valOf qi), .int .i64 lo, .int .i64 hi], .bool false]) ?_ rfl ⟨rfl, by rw [HG.out]; exact HBL.out⟩
        simp [results, Try.results70, go_sem, s0, s1, s2, s3, s4, s5, s6, s7, s8, s9, s10, s11, s12, s13, s14]

set_option maxRecDepth 100000 in
set_option maxHeartbeats 4000000 in
theorem votesCom_run {P : Nat → Prop} {T : Tree} (nd sl sq t kd bc pc qc lo hi : Int) (bi pi qi n1 k1 n2 k2 : Nat) (A1 A2 : Option Addr) (v : Nat) (l h : Int) (hv4 : v ≤ 4) (w : World) (hE : GE P T nd sl sq t kd bc pc qc lo hi bi pi qi n1 k1 n2 k2 A1 A2 w) :
    Calls Try.prog 30 #[.agg #[.int .i64 nd, .int .i64 sl, .int .i64 sq, .int .i64 t, .slice A1 n1 k1, .slice A2 n2 k2, .int .i64 kd, .int .i64 bc, .string (valOf bi), .int .i64 pc, .string (valOf pi), .int .i64 qc, .string (valOf qi), .int .i64 lo, .int .i64 hi], .string (valOf v), .int .i64 l, .int .i64 h] w fun e w' => e = .returned (.bool (vcB kd bi lo hi v l h)) ∧ Below w.heap.size w w' := by
  obtain ⟨R, hR⟩ : ∃ R, vcB kd bi lo hi v l h = R := ⟨_, rfl⟩
  rw [hR]
  have HR := Lib.hid hR
  clear hR
  have HE := Lib.hid (hE.bl (w' := (w.alloc (.cells #[.int .i64 nd, .int .i64 sl, .int .i64 sq, .int .i64 t, .slice A1 n1 k1, .slice A2 n2 k2, .int .i64 kd, .int .i64 bc, .string (valOf bi), .int .i64 pc, .string (valOf pi), .int .i64 qc, .string (valOf qi), .int .i64 lo, .int .i64 hi] 44))) (balloc (bref w) _))
  have HB0 := Lib.hid (show Below w.heap.size w (w.alloc (.cells #[.int .i64 nd, .int .i64 sl, .int .i64 sq, .int .i64 t, .slice A1 n1 k1, .slice A2 n2 k2, .int .i64 kd, .int .i64 bc, .string (valOf bi), .int .i64 pc, .string (valOf pi), .int .i64 qc, .string (valOf qi), .int .i64 lo, .int .i64 hi] 44)) from balloc (bref w) _)
  have HX0 := Lib.hid (show (w.alloc (.cells #[.int .i64 nd, .int .i64 sl, .int .i64 sq, .int .i64 t, .slice A1 n1 k1, .slice A2 n2 k2, .int .i64 kd, .int .i64 bc, .string (valOf bi), .int .i64 pc, .string (valOf pi), .int .i64 qc, .string (valOf qi), .int .i64 lo, .int .i64 hi] 44)).heap[w.heap.size]? = some (.cells #[.int .i64 nd, .int .i64 sl, .int .i64 sq, .int .i64 t, .slice A1 n1 k1, .slice A2 n2 k2, .int .i64 kd, .int .i64 bc, .string (valOf bi), .int .i64 pc, .string (valOf pi), .int .i64 qc, .string (valOf qi), .int .i64 lo, .int .i64 hi] 44 (0, 0)) from heap_alloc_new _ _)
  clear hE
  go_enter Try.func30, Try.ntmps30
  go_upto_region 1 with fail
  generalize (w.alloc (.cells #[.int .i64 nd, .int .i64 sl, .int .i64 sq, .int .i64 t, .slice A1 n1 k1, .slice A2 n2 k2, .int .i64 kd, .int .i64 bc, .string (valOf bi), .int .i64 pc, .string (valOf pi), .int .i64 qc, .string (valOf qi), .int .i64 lo, .int .i64 hi] 44)) = W0 at *
  generalize hg : w.heap.size = g at *
  have HG := Lib.hid hg
  clear hg
  have x0 : W0.cell? ⟨g, 0, none⟩ = some (.int .i64 nd) := cell_of_row _ _ 0 _ _ (0, 0) HX0.out
  have x1 : W0.cell? ⟨g, 1, none⟩ = some (.int .i64 sl) := cell_of_row _ _ 1 _ _ (0, 0) HX0.out
  have x2 : W0.cell? ⟨g, 2, none⟩ = some (.int .i64 sq) := cell_of_row _ _ 2 _ _ (0, 0) HX0.out
  have x3 : W0.cell? ⟨g, 3, none⟩ = some (.int .i64 t) := cell_of_row _ _ 3 _ _ (0, 0) HX0.out
  have x4 : W0.cell? ⟨g, 4, none⟩ = some (.slice A1 n1 k1) := cell_of_row _ _ 4 _ _ (0, 0) HX0.out
  have x5 : W0.cell? ⟨g, 5, none⟩ = some (.slice A2 n2 k2) := cell_of_row _ _ 5 _ _ (0, 0) HX0.out
  have x6 : W0.cell? ⟨g, 6, none⟩ = some (.int .i64 kd) := cell_of_row _ _ 6 _ _ (0, 0) HX0.out
  have x7 : W0.cell? ⟨g, 7, none⟩ = some (.int .i64 bc) := cell_of_row _ _ 7 _ _ (0, 0) HX0.out
  have x8 : W0.cell? ⟨g, 8, none⟩ = some (.string (valOf bi)) := cell_of_row _ _ 8 _ _ (0, 0) HX0.out
  have x9 : W0.cell? ⟨g, 9, none⟩ = some (.int .i64 pc) := cell_of_row _ _ 9 _ _ (0, 0) HX0.out
  have x10 : W0.cell? ⟨g, 10, none⟩ = some (.string (valOf pi)) := cell_of_row _ _ 10 _ _ (0, 0) HX0.out
  have x11 : W0.cell? ⟨g, 11, none⟩ = some (.int .i64 qc) := cell_of_row _ _ 11 _ _ (0, 0) HX0.out
  have x12 : W0.cell? ⟨g, 12, none⟩ = some (.string (valOf qi)) := cell_of_row _ _ 12 _ _ (0, 0) HX0.out
  have x13 : W0.cell? ⟨g, 13, none⟩ = some (.int .i64 lo) := cell_of_row _ _ 13 _ _ (0, 0) HX0.out
  have x14 : W0.cell? ⟨g, 14, none⟩ = some (.int .i64 hi) := cell_of_row _ _ 14 _ _ (0, 0) HX0.out
  go_wp2_with fail
  refine (speaks_run _ _ _ _ _ _ _ _ _ _ _ _ _ _ _ _ _ _ _ _ _ _ hv4 _ HE.out).mono ?_
  rintro e W1 ⟨rfl, hb⟩
  have J2 := Lib.hid (show EW w g W1.heap.size #[.int .i64 nd, .int .i64 sl, .int .i64 sq, .int .i64 t, .slice A1 n1 k1, .slice A2 n2 k2, .int .i64 kd, .int .i64 bc, .string (valOf bi), .int .i64 pc, .string (valOf pi), .int .i64 qc, .string (valOf qi), .int .i64 lo, .int .i64 hi] 91 (W1.alloc (.cells #[.int .i64 nd, .int .i64 sl, .int .i64 sq, .int .i64 t, .slice A1 n1 k1, .slice A2 n2 k2, .int .i64 kd, .int .i64 bc, .string (valOf bi), .int .i64 pc, .string (valOf pi), .int .i64 qc, .string (valOf qi), .int .i64 lo, .int .i64 hi] 91)) from ⟨heap_alloc_new _ _, (HB0.out.trans (hb.mono (Nat.le_of_lt (heapLt HX0.out)))).trans ((balloc (bref W1) _).mono (Nat.le_trans (Nat.le_of_lt (heapLt HX0.out)) hb.size)), Nat.le_trans (Nat.le_of_lt (heapLt HX0.out)) hb.size⟩)
  clear x0 x1 x2 x3 x4 x5 x6 x7 x8 x9 x10 x11 x12 x13 x14 hb HX0 HB0
  go_upto_region 2 with fail
  generalize (W1.alloc (.cells #[.int .i64 nd, .int .i64 sl, .int .i64 sq, .int .i64 t, .slice A1 n1 k1, .slice A2 n2 k2, .int .i64 kd, .int .i64 bc, .string (valOf bi), .int .i64 pc, .string (valOf pi), .int .i64 qc, .string (valOf qi), .int .i64 lo, .int .i64 hi] 91)) = W2 at *
  generalize W1.heap.size = r at *
  cases hsp : spB bi lo v l h
  · --no
    obtain rfl : false = R := by rw [← HR.out]; unfold vcB; symm; first | (simp only [hsp, Bool.false_eq_true, if_false, if_true, Bool.not_true, Bool.not_false, Bool.and_true, Bool.true_and, Bool.and_false, Bool.false_and, Bool.or_false, Bool.or_true, Bool.false_or, Bool.true_or]; done) | (simp [hsp]; done)
    clear HR
    go_wp2_with fail
    go_ret
    exact ⟨rfl, by rw [HG.out]; exact J2.out.bel⟩
  · --yes
    by_cases h1 : kd = 1
    · --h1 t
      have h1D := Lib.hid (show decide (kd = 1) = true by simpa using h1)
      have h1t0 : (kd != 1) = false := by first | (rw [decide_eq_false_iff_not]; omega) | (rw [decide_eq_true_iff]; omega) | (rw [bne_iff_ne]; omega) | (rw [beq_iff_eq]; omega) | (rw [beq_eq_false_iff_ne]; omega) | (rw [bne_eq_false_iff_eq]; omega)
      clear h1
      by_cases h2 : h ≤ hi
      · --h2 t
        have h2D := Lib.hid (show decide (h ≤ hi) = true by simpa using h2)
        have h2t0 : decide (h ≤ hi) = true := by first | (rw [decide_eq_false_iff_not]; omega) | (rw [decide_eq_true_iff]; omega) | (rw [bne_iff_ne]; omega) | (rw [beq_iff_eq]; omega) | (rw [beq_eq_false_iff_ne]; omega) | (rw [bne_eq_false_iff_eq]; omega)
        obtain rfl : true = R := by rw [← HR.out]; unfold vcB; symm; first | (simp only [hsp, h1D.out, h2D.out, h2, Bool.false_eq_true, if_false, if_true, Bool.not_true, Bool.not_false, Bool.and_true, Bool.true_and, Bool.and_false, Bool.false_and, Bool.or_false, Bool.or_true, Bool.false_or, Bool.true_or]; done) | (simp [hsp, h1D.out, h2D.out, h2]; done)
        clear HR
        have x6 : W2.cell? ⟨r, 6, none⟩ = some (.int .i64 kd) := cell_of_row _ _ 6 _ _ (0, 0) J2.out.e
        have x14 : W2.cell? ⟨r, 14, none⟩ = some (.int .i64 hi) := cell_of_row _ _ 14 _ _ (0, 0) J2.out.e
        go_wp2_with fail
        go_ret
        exact ⟨rfl, by rw [HG.out]; exact J2.out.bel⟩
      · --h2 f
        have h2D := Lib.hid (show decide (h ≤ hi) = false by simpa using h2)
        have h2f0 : decide (h ≤ hi) = false := by first | (rw [decide_eq_false_iff_not]; omega) | (rw [decide_eq_true_iff]; omega) | (rw [bne_iff_ne]; omega) | (rw [beq_iff_eq]; omega) | (rw [beq_eq_false_iff_ne]; omega) | (rw [bne_eq_false_iff_eq]; omega)
        obtain rfl : false = R := by rw [← HR.out]; unfold vcB; symm; first | (simp only [hsp, h1D.out, h2D.out, h2, Bool.false_eq_true, if_false, if_true, Bool.not_true, Bool.not_false, Bool.and_true, Bool.true_and, Bool.and_false, Bool.false_and, Bool.or_false, Bool.or_true, Bool.false_or, Bool.true_or]; done) | (simp [hsp, h1D.out, h2D.out, h2]; done)
        clear HR
        have x6 : W2.cell? ⟨r, 6, none⟩ = some (.int .i64 kd) := cell_of_row _ _ 6 _ _ (0, 0) J2.out.e
        have x14 : W2.cell? ⟨r, 14, none⟩ = some (.int .i64 hi) := cell_of_row _ _ 14 _ _ (0, 0) J2.out.e
        go_wp2_with fail
        go_ret
        exact ⟨rfl, by rw [HG.out]; exact J2.out.bel⟩
    · --h1 f
      have h1D := Lib.hid (show decide (kd = 1) = false by simpa using h1)
      have h1f0 : (kd != 1) = true := by first | (rw [decide_eq_false_iff_not]; omega) | (rw [decide_eq_true_iff]; omega) | (rw [bne_iff_ne]; omega) | (rw [beq_iff_eq]; omega) | (rw [beq_eq_false_iff_ne]; omega) | (rw [bne_eq_false_iff_eq]; omega)
      clear h1
      obtain rfl : true = R := by rw [← HR.out]; unfold vcB; symm; first | (simp only [hsp, h1D.out, Bool.false_eq_true, if_false, if_true, Bool.not_true, Bool.not_false, Bool.and_true, Bool.true_and, Bool.and_false, Bool.false_and, Bool.or_false, Bool.or_true, Bool.false_or, Bool.true_or]; done) | (simp [hsp, h1D.out]; done)
      clear HR
      have x6 : W2.cell? ⟨r, 6, none⟩ = some (.int .i64 kd) := cell_of_row _ _ 6 _ _ (0, 0) J2.out.e
      go_wp2_with fail
      go_ret
      exact ⟨rfl, by rw [HG.out]; exact J2.out.bel⟩

set_option maxRecDepth 100000 in
set_option maxHeartbeats 4000000 in
theorem acceptsCom_run {P : Nat → Prop} {T : Tree} (nd sl sq t kd bc pc qc lo hi : Int) (bi pi qi n1 k1 n2 k2 : Nat) (A1 A2 : Option Addr) (v : Nat) (l h : Int) (hv4 : v ≤ 4) (w : World) (hE : GE P T nd sl sq t kd bc pc qc lo hi bi pi qi n1 k1 n2 k2 A1 A2 w) :
    Calls Try.prog 28 #[.agg #[.int .i64 nd, .int .i64 sl, .int .i64 sq, .int .i64 t, .slice A1 n1 k1, .slice A2 n2 k2, .int .i64 kd, .int .i64 bc, .string (valOf bi), .int .i64 pc, .string (valOf pi), .int .i64 qc, .string (valOf qi), .int .i64 lo, .int .i64 hi], .string (valOf v), .int .i64 l, .int .i64 h] w fun e w' => e = .returned (.bool (acB kd bi lo hi v l h)) ∧ Below w.heap.size w w' := by
  obtain ⟨R, hR⟩ : ∃ R, acB kd bi lo hi v l h = R := ⟨_, rfl⟩
  rw [hR]
  have HR := Lib.hid hR
  clear hR
  have HE := Lib.hid (hE.bl (w' := (w.alloc (.cells #[.int .i64 nd, .int .i64 sl, .int .i64 sq, .int .i64 t, .slice A1 n1 k1, .slice A2 n2 k2, .int .i64 kd, .int .i64 bc, .string (valOf bi), .int .i64 pc, .string (valOf pi), .int .i64 qc, .string (valOf qi), .int .i64 lo, .int .i64 hi] 44))) (balloc (bref w) _))
  have HB0 := Lib.hid (show Below w.heap.size w (w.alloc (.cells #[.int .i64 nd, .int .i64 sl, .int .i64 sq, .int .i64 t, .slice A1 n1 k1, .slice A2 n2 k2, .int .i64 kd, .int .i64 bc, .string (valOf bi), .int .i64 pc, .string (valOf pi), .int .i64 qc, .string (valOf qi), .int .i64 lo, .int .i64 hi] 44)) from balloc (bref w) _)
  have HX0 := Lib.hid (show (w.alloc (.cells #[.int .i64 nd, .int .i64 sl, .int .i64 sq, .int .i64 t, .slice A1 n1 k1, .slice A2 n2 k2, .int .i64 kd, .int .i64 bc, .string (valOf bi), .int .i64 pc, .string (valOf pi), .int .i64 qc, .string (valOf qi), .int .i64 lo, .int .i64 hi] 44)).heap[w.heap.size]? = some (.cells #[.int .i64 nd, .int .i64 sl, .int .i64 sq, .int .i64 t, .slice A1 n1 k1, .slice A2 n2 k2, .int .i64 kd, .int .i64 bc, .string (valOf bi), .int .i64 pc, .string (valOf pi), .int .i64 qc, .string (valOf qi), .int .i64 lo, .int .i64 hi] 44 (0, 0)) from heap_alloc_new _ _)
  clear hE
  go_enter Try.func28, Try.ntmps28
  go_upto_region 1 with fail
  generalize (w.alloc (.cells #[.int .i64 nd, .int .i64 sl, .int .i64 sq, .int .i64 t, .slice A1 n1 k1, .slice A2 n2 k2, .int .i64 kd, .int .i64 bc, .string (valOf bi), .int .i64 pc, .string (valOf pi), .int .i64 qc, .string (valOf qi), .int .i64 lo, .int .i64 hi] 44)) = W0 at *
  generalize hg : w.heap.size = g at *
  have HG := Lib.hid hg
  clear hg
  have x0 : W0.cell? ⟨g, 0, none⟩ = some (.int .i64 nd) := cell_of_row _ _ 0 _ _ (0, 0) HX0.out
  have x1 : W0.cell? ⟨g, 1, none⟩ = some (.int .i64 sl) := cell_of_row _ _ 1 _ _ (0, 0) HX0.out
  have x2 : W0.cell? ⟨g, 2, none⟩ = some (.int .i64 sq) := cell_of_row _ _ 2 _ _ (0, 0) HX0.out
  have x3 : W0.cell? ⟨g, 3, none⟩ = some (.int .i64 t) := cell_of_row _ _ 3 _ _ (0, 0) HX0.out
  have x4 : W0.cell? ⟨g, 4, none⟩ = some (.slice A1 n1 k1) := cell_of_row _ _ 4 _ _ (0, 0) HX0.out
  have x5 : W0.cell? ⟨g, 5, none⟩ = some (.slice A2 n2 k2) := cell_of_row _ _ 5 _ _ (0, 0) HX0.out
  have x6 : W0.cell? ⟨g, 6, none⟩ = some (.int .i64 kd) := cell_of_row _ _ 6 _ _ (0, 0) HX0.out
  have x7 : W0.cell? ⟨g, 7, none⟩ = some (.int .i64 bc) := cell_of_row _ _ 7 _ _ (0, 0) HX0.out
  have x8 : W0.cell? ⟨g, 8, none⟩ = some (.string (valOf bi)) := cell_of_row _ _ 8 _ _ (0, 0) HX0.out
  have x9 : W0.cell? ⟨g, 9, none⟩ = some (.int .i64 pc) := cell_of_row _ _ 9 _ _ (0, 0) HX0.out
  have x10 : W0.cell? ⟨g, 10, none⟩ = some (.string (valOf pi)) := cell_of_row _ _ 10 _ _ (0, 0) HX0.out
  have x11 : W0.cell? ⟨g, 11, none⟩ = some (.int .i64 qc) := cell_of_row _ _ 11 _ _ (0, 0) HX0.out
  have x12 : W0.cell? ⟨g, 12, none⟩ = some (.string (valOf qi)) := cell_of_row _ _ 12 _ _ (0, 0) HX0.out
  have x13 : W0.cell? ⟨g, 13, none⟩ = some (.int .i64 lo) := cell_of_row _ _ 13 _ _ (0, 0) HX0.out
  have x14 : W0.cell? ⟨g, 14, none⟩ = some (.int .i64 hi) := cell_of_row _ _ 14 _ _ (0, 0) HX0.out
  go_wp2_with fail
  refine (speaks_run _ _ _ _ _ _ _ _ _ _ _ _ _ _ _ _ _ _ _ _ _ _ hv4 _ HE.out).mono ?_
  rintro e W1 ⟨rfl, hb⟩
  have J2 := Lib.hid (show EW w g W1.heap.size #[.int .i64 nd, .int .i64 sl, .int .i64 sq, .int .i64 t, .slice A1 n1 k1, .slice A2 n2 k2, .int .i64 kd, .int .i64 bc, .string (valOf bi), .int .i64 pc, .string (valOf pi), .int .i64 qc, .string (valOf qi), .int .i64 lo, .int .i64 hi] 91 (W1.alloc (.cells #[.int .i64 nd, .int .i64 sl, .int .i64 sq, .int .i64 t, .slice A1 n1 k1, .slice A2 n2 k2, .int .i64 kd, .int .i64 bc, .string (valOf bi), .int .i64 pc, .string (valOf pi), .int .i64 qc, .string (valOf qi), .int .i64 lo, .int .i64 hi] 91)) from ⟨heap_alloc_new _ _, (HB0.out.trans (hb.mono (Nat.le_of_lt (heapLt HX0.out)))).trans ((balloc (bref W1) _).mono (Nat.le_trans (Nat.le_of_lt (heapLt HX0.out)) hb.size)), Nat.le_trans (Nat.le_of_lt (heapLt HX0.out)) hb.size⟩)
  clear x0 x1 x2 x3 x4 x5 x6 x7 x8 x9 x10 x11 x12 x13 x14 hb HX0 HB0
  go_upto_region 2 with fail
  generalize (W1.alloc (.cells #[.int .i64 nd, .int .i64 sl, .int .i64 sq, .int .i64 t, .slice A1 n1 k1, .slice A2 n2 k2, .int .i64 kd, .int .i64 bc, .string (valOf bi), .int .i64 pc, .string (valOf pi), .int .i64 qc, .string (valOf qi), .int .i64 lo, .int .i64 hi] 91)) = W2 at *
  generalize W1.heap.size = r at *
  cases hsp : spB bi lo v l h
  · --no
    obtain rfl : false = R := by rw [← HR.out]; unfold acB; symm; first | (simp only [hsp, Bool.false_eq_true, if_false, if_true, Bool.not_true, Bool.not_false, Bool.and_true, Bool.true_and, Bool.and_false, Bool.false_and, Bool.or_false, Bool.or_true, Bool.false_or, Bool.true_or]; done) | (simp [hsp]; done)
    clear HR
    go_wp2_with fail
    go_ret
    exact ⟨rfl, by rw [HG.out]; exact J2.out.bel⟩
  · --yes
    by_cases h1 : kd = 3
    · --h1 t
      have h1D := Lib.hid (show decide (kd = 3) = true by simpa using h1)
      have h1t0 : (kd == 3) = true := by first | (rw [decide_eq_false_iff_not]; omega) | (rw [decide_eq_true_iff]; omega) | (rw [bne_iff_ne]; omega) | (rw [beq_iff_eq]; omega) | (rw [beq_eq_false_iff_ne]; omega) | (rw [bne_eq_false_iff_eq]; omega)
      clear h1
      obtain rfl : true = R := by rw [← HR.out]; unfold acB; symm; first | (simp only [hsp, h1D.out, Bool.false_eq_true, if_false, if_true, Bool.not_true, Bool.not_false, Bool.and_true, Bool.true_and, Bool.and_false, Bool.false_and, Bool.or_false, Bool.or_true, Bool.false_or, Bool.true_or]; done) | (simp [hsp, h1D.out]; done)
      clear HR
      have x6 : W2.cell? ⟨r, 6, none⟩ = some (.int .i64 kd) := cell_of_row _ _ 6 _ _ (0, 0) J2.out.e
      go_wp2_with fail
      go_ret
      exact ⟨rfl, by rw [HG.out]; exact J2.out.bel⟩
    · --h1 f
      have h1D := Lib.hid (show decide (kd = 3) = false by simpa using h1)
      have h1f0 : (kd == 3) = false := by first | (rw [decide_eq_false_iff_not]; omega) | (rw [decide_eq_true_iff]; omega) | (rw [bne_iff_ne]; omega) | (rw [beq_iff_eq]; omega) | (rw [beq_eq_false_iff_ne]; omega) | (rw [bne_eq_false_iff_eq]; omega)
      clear h1
      by_cases h3 : kd = 2
      · --h3 t
        have h3D := Lib.hid (show decide (kd = 2) = true by simpa using h3)
        have h3t0 : (kd == 2) = true := by first | (rw [decide_eq_false_iff_not]; omega) | (rw [decide_eq_true_iff]; omega) | (rw [bne_iff_ne]; omega) | (rw [beq_iff_eq]; omega) | (rw [beq_eq_false_iff_ne]; omega) | (rw [bne_eq_false_iff_eq]; omega)
        clear h3
        by_cases h2 : h ≤ hi
        · --h2 t
          have h2D := Lib.hid (show decide (h ≤ hi) = true by simpa using h2)
          have h2t0 : decide (h ≤ hi) = true := by first | (rw [decide_eq_false_iff_not]; omega) | (rw [decide_eq_true_iff]; omega) | (rw [bne_iff_ne]; omega) | (rw [beq_iff_eq]; omega) | (rw [beq_eq_false_iff_ne]; omega) | (rw [bne_eq_false_iff_eq]; omega)
          obtain rfl : true = R := by rw [← HR.out]; unfold acB; symm; first | (simp only [hsp, h1D.out, h3D.out, h2D.out, h2, Bool.false_eq_true, if_false, if_true, Bool.not_true, Bool.not_false, Bool.and_true, Bool.true_and, Bool.and_false, Bool.false_and, Bool.or_false, Bool.or_true, Bool.false_or, Bool.true_or]; done) | (simp [hsp, h1D.out, h3D.out, h2D.out, h2]; done)
          clear HR
          have x6 : W2.cell? ⟨r, 6, none⟩ = some (.int .i64 kd) := cell_of_row _ _ 6 _ _ (0, 0) J2.out.e
          have x14 : W2.cell? ⟨r, 14, none⟩ = some (.int .i64 hi) := cell_of_row _ _ 14 _ _ (0, 0) J2.out.e
          go_wp2_with fail
          go_ret
          exact ⟨rfl, by rw [HG.out]; exact J2.out.bel⟩
        · --h2 f
          have h2D := Lib.hid (show decide (h ≤ hi) = false by simpa using h2)
          have h2f0 : decide (h ≤ hi) = false := by first | (rw [decide_eq_false_iff_not]; omega) | (rw [decide_eq_true_iff]; omega) | (rw [bne_iff_ne]; omega) | (rw [beq_iff_eq]; omega) | (rw [beq_eq_false_iff_ne]; omega) | (rw [bne_eq_false_iff_eq]; omega)
          obtain rfl : false = R := by rw [← HR.out]; unfold acB; symm; first | (simp only [hsp, h1D.out, h3D.out, h2D.out, h2, Bool.false_eq_true, if_false, if_true, Bool.not_true, Bool.not_false, Bool.and_true, Bool.true_and, Bool.and_false, Bool.false_and, Bool.or_false, Bool.or_true, Bool.false_or, Bool.true_or]; done) | (simp [hsp, h1D.out, h3D.out, h2D.out, h2]; done)
          clear HR
          have x6 : W2.cell? ⟨r, 6, none⟩ = some (.int .i64 kd) := cell_of_row _ _ 6 _ _ (0, 0) J2.out.e
          have x14 : W2.cell? ⟨r, 14, none⟩ = some (.int .i64 hi) := cell_of_row _ _ 14 _ _ (0, 0) J2.out.e
          go_wp2_with fail
          go_ret
          exact ⟨rfl, by rw [HG.out]; exact J2.out.bel⟩
      · --h3 f
        have h3D := Lib.hid (show decide (kd = 2) = false by simpa using h3)
        have h3f0 : (kd == 2) = false := by first | (rw [decide_eq_false_iff_not]; omega) | (rw [decide_eq_true_iff]; omega) | (rw [bne_iff_ne]; omega) | (rw [beq_iff_eq]; omega) | (rw [beq_eq_false_iff_ne]; omega) | (rw [bne_eq_false_iff_eq]; omega)
        clear h3
        obtain rfl : false = R := by rw [← HR.out]; unfold acB; symm; first | (simp only [hsp, h1D.out, h3D.out, Bool.false_eq_true, if_false, if_true, Bool.not_true, Bool.not_false, Bool.and_true, Bool.true_and, Bool.and_false, Bool.false_and, Bool.or_false, Bool.or_true, Bool.false_or, Bool.true_or]; done) | (simp [hsp, h1D.out, h3D.out]; done)
        clear HR
        have x6 : W2.cell? ⟨r, 6, none⟩ = some (.int .i64 kd) := cell_of_row _ _ 6 _ _ (0, 0) J2.out.e
        go_wp2_with fail
        go_ret
        exact ⟨rfl, by rw [HG.out]; exact J2.out.bel⟩

set_option maxRecDepth 100000 in
theorem pvalidE_run {P : Nat → Prop} {T : Tree} (nd sl sq t kd bc pc qc lo hi : Int) (bi pi qi n1 k1 n2 k2 : Nat) (A1 A2 : Option Addr) (w : World) (hE : GE P T nd sl sq t kd bc pc qc lo hi bi pi qi n1 k1 n2 k2 A1 A2 w) :
    Calls Try.prog 27 #[.agg #[.int .i64 nd, .int .i64 sl, .int .i64 sq, .int .i64 t, .slice A1 n1 k1, .slice A2 n2 k2, .int .i64 kd, .int .i64 bc, .string (valOf bi), .int .i64 pc, .string (valOf pi), .int .i64 qc, .string (valOf qi), .int .i64 lo, .int .i64 hi]] w fun e w' => e = .returned (.bool true) ∧ Below w.heap.size w w' := by
  have HE := Lib.hid (hE.bl (w' := (w.alloc (.cells #[.int .i64 nd, .int .i64 sl, .int .i64 sq, .int .i64 t, .slice A1 n1 k1, .slice A2 n2 k2, .int .i64 kd, .int .i64 bc, .string (valOf bi), .int .i64 pc, .string (valOf pi), .int .i64 qc, .string (valOf qi), .int .i64 lo, .int .i64 hi] 44))) (balloc (bref w) _))
  have HB0 := Lib.hid (show Below w.heap.size w (w.alloc (.cells #[.int .i64 nd, .int .i64 sl, .int .i64 sq, .int .i64 t, .slice A1 n1 k1, .slice A2 n2 k2, .int .i64 kd, .int .i64 bc, .string (valOf bi), .int .i64 pc, .string (valOf pi), .int .i64 qc, .string (valOf qi), .int .i64 lo, .int .i64 hi] 44)) from balloc (bref w) _)
  have HX0 := Lib.hid (show (w.alloc (.cells #[.int .i64 nd, .int .i64 sl, .int .i64 sq, .int .i64 t, .slice A1 n1 k1, .slice A2 n2 k2, .int .i64 kd, .int .i64 bc, .string (valOf bi), .int .i64 pc, .string (valOf pi), .int .i64 qc, .string (valOf qi), .int .i64 lo, .int .i64 hi] 44)).heap[w.heap.size]? = some (.cells #[.int .i64 nd, .int .i64 sl, .int .i64 sq, .int .i64 t, .slice A1 n1 k1, .slice A2 n2 k2, .int .i64 kd, .int .i64 bc, .string (valOf bi), .int .i64 pc, .string (valOf pi), .int .i64 qc, .string (valOf qi), .int .i64 lo, .int .i64 hi] 44 (0, 0)) from heap_alloc_new _ _)
  clear hE
  go_enter Try.func27, Try.ntmps27
  go_upto_region 1 with fail
  generalize (w.alloc (.cells #[.int .i64 nd, .int .i64 sl, .int .i64 sq, .int .i64 t, .slice A1 n1 k1, .slice A2 n2 k2, .int .i64 kd, .int .i64 bc, .string (valOf bi), .int .i64 pc, .string (valOf pi), .int .i64 qc, .string (valOf qi), .int .i64 lo, .int .i64 hi] 44)) = W0 at *
  generalize hg : w.heap.size = g at *
  have HG := Lib.hid hg
  clear hg
  have x0 : W0.cell? ⟨g, 0, none⟩ = some (.int .i64 nd) := cell_of_row _ _ 0 _ _ (0, 0) HX0.out
  have x1 : W0.cell? ⟨g, 1, none⟩ = some (.int .i64 sl) := cell_of_row _ _ 1 _ _ (0, 0) HX0.out
  have x2 : W0.cell? ⟨g, 2, none⟩ = some (.int .i64 sq) := cell_of_row _ _ 2 _ _ (0, 0) HX0.out
  have x3 : W0.cell? ⟨g, 3, none⟩ = some (.int .i64 t) := cell_of_row _ _ 3 _ _ (0, 0) HX0.out
  have x4 : W0.cell? ⟨g, 4, none⟩ = some (.slice A1 n1 k1) := cell_of_row _ _ 4 _ _ (0, 0) HX0.out
  have x5 : W0.cell? ⟨g, 5, none⟩ = some (.slice A2 n2 k2) := cell_of_row _ _ 5 _ _ (0, 0) HX0.out
  have x6 : W0.cell? ⟨g, 6, none⟩ = some (.int .i64 kd) := cell_of_row _ _ 6 _ _ (0, 0) HX0.out
  have x7 : W0.cell? ⟨g, 7, none⟩ = some (.int .i64 bc) := cell_of_row _ _ 7 _ _ (0, 0) HX0.out
  have x8 : W0.cell? ⟨g, 8, none⟩ = some (.string (valOf bi)) := cell_of_row _ _ 8 _ _ (0, 0) HX0.out
  have x9 : W0.cell? ⟨g, 9, none⟩ = some (.int .i64 pc) := cell_of_row _ _ 9 _ _ (0, 0) HX0.out
  have x10 : W0.cell? ⟨g, 10, none⟩ = some (.string (valOf pi)) := cell_of_row _ _ 10 _ _ (0, 0) HX0.out
  have x11 : W0.cell? ⟨g, 11, none⟩ = some (.int .i64 qc) := cell_of_row _ _ 11 _ _ (0, 0) HX0.out
  have x12 : W0.cell? ⟨g, 12, none⟩ = some (.string (valOf qi)) := cell_of_row _ _ 12 _ _ (0, 0) HX0.out
  have x13 : W0.cell? ⟨g, 13, none⟩ = some (.int .i64 lo) := cell_of_row _ _ 13 _ _ (0, 0) HX0.out
  have x14 : W0.cell? ⟨g, 14, none⟩ = some (.int .i64 hi) := cell_of_row _ _ 14 _ _ (0, 0) HX0.out
  go_wp2_with fail
  refine (check_ok _ _ _ _ _ _ _ _ _ _ _ _ _ _ _ _ _ _ _ HE.out).mono ?_
  rintro e W1 ⟨rfl, hb⟩
  have J2 := Lib.hid (show EW w g W1.heap.size #[.int .i64 nd, .int .i64 sl, .int .i64 sq, .int .i64 t, .slice A1 n1 k1, .slice A2 n2 k2, .int .i64 kd, .int .i64 bc, .string (valOf bi), .int .i64 pc, .string (valOf pi), .int .i64 qc, .string (valOf qi), .int .i64 lo, .int .i64 hi] 91 (W1.alloc (.cells #[.int .i64 nd, .int .i64 sl, .int .i64 sq, .int .i64 t, .slice A1 n1 k1, .slice A2 n2 k2, .int .i64 kd, .int .i64 bc, .string (valOf bi), .int .i64 pc, .string (valOf pi), .int .i64 qc, .string (valOf qi), .int .i64 lo, .int .i64 hi] 91)) from ⟨heap_alloc_new _ _, (HB0.out.trans (hb.mono (Nat.le_of_lt (heapLt HX0.out)))).trans ((balloc (bref W1) _).mono (Nat.le_trans (Nat.le_of_lt (heapLt HX0.out)) hb.size)), Nat.le_trans (Nat.le_of_lt (heapLt HX0.out)) hb.size⟩)
  clear x0 x1 x2 x3 x4 x5 x6 x7 x8 x9 x10 x11 x12 x13 x14 hb HX0 HB0
  go_upto_region 2 with fail
  generalize (W1.alloc (.cells #[.int .i64 nd, .int .i64 sl, .int .i64 sq, .int .i64 t, .slice A1 n1 k1, .slice A2 n2 k2, .int .i64 kd, .int .i64 bc, .string (valOf bi), .int .i64 pc, .string (valOf pi), .int .i64 qc, .string (valOf qi), .int .i64 lo, .int .i64 hi] 91)) = W2 at *
  generalize W1.heap.size = r at *
  go_wp2_with fail
  go_ret
  exact ⟨rfl, by rw [HG.out]; exact J2.out.bel⟩
end Go.Proofs.Ytmgiojdipheokaa
