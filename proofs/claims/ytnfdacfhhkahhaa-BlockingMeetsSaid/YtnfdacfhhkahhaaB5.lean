/- What the laws of this seat share: part 5. -/
import Derived.Test.YtnfdacfhhkahhaaB4
import Derived.RangeFuncFrom
import Derived.RangeFuncLeaves
import Derived.RangeFuncNested
import Derived.RangeFuncBound
import Derived.RangeFuncCalls
import Derived.Shelf.Abstract
import Derived.WalkKit
import Derived.OwnWalkIn
import Derived.TacticsInMore
import Derived.LoopNIn
import Derived.LoopIn
import Derived.Deep.RegionHeld3
import Derived.Deep.RegionWith
import Derived.Sort.Grow
import Derived.Deep.WholeRow
import Derived.Shelf.SlSortCmp.Insertion
import Derived.Test.YtnfdacfhhkahhaaProg
import Derived.Sort.OwnSortedInts

namespace Go.Proofs.Ytnfdacfhhkahhaa
set_option linter.unusedVariables false
set_option linter.unusedSimpArgs false
open Go.RowKit Go.Shelf
attribute [local go_sem] Oper.semAt_some

theorem fr_of {W : World} {b o : Nat} {cs : Array Value} {t : TypeId} (h : W.heap[b]? = some (.cells cs t (0, 0))) : W.frozen? ⟨b, o, none⟩ = false := by simp [World.frozen?, h]

def boolS (b : Bool) (s : Nat) : Nat := if b then 20001 - keyN s else 0

end Go.Proofs.Ytnfdacfhhkahhaa

namespace Go.Proofs.Ytnfdacfhhkahhaa
set_option linter.unusedVariables false
set_option linter.unusedSimpArgs false
open Go.RowKit

def ImplT (w : World) (d : Nat) (T U : Tree) (t : Int) (A1 : Option Addr) (n1 c1 : Nat) (A2 : Option Addr) (n2 c2 : Nat) (t' : Int) (B1 : Option Addr) (m1 e1 : Nat) (B2 : Option Addr) (m2 e2 : Nat) (W : World) : Prop :=
  TAt (fun _ => True) d W (.int .i64 t) (.slice A1 n1 c1) (.slice A2 n2 c2) T ∧ TAt (fun _ => True) d W (.int .i64 t') (.slice B1 m1 e1) (.slice B2 m2 e2) U ∧ Below w.heap.size w W

end Go.Proofs.Ytnfdacfhhkahhaa

namespace Go.Proofs.Ytnfdacfhhkahhaa
set_option linter.unusedVariables false
set_option linter.unusedSimpArgs false
open Go.RowKit

theorem or_i64 (a b : Nat) (ha : a < 1024) (hb : b < 1024) : bits .or .i64 (a : Int) (b : Int) = ((a ||| b : Nat) : Int) := i64_or_nat a b (by omega) (by omega)

theorem qKeep {W W' : World} {q g : Nat} {x : Int} (h : W.heap[q]? = some (.cells #[.int .i64 x] 3 (0, 0)) ∧ g + 3 ≤ q) (hb : Below W.heap.size W W') : W'.heap[q]? = some (.cells #[.int .i64 x] 3 (0, 0)) ∧ g + 3 ≤ q := ⟨(hb.block _ (Array.getElem?_eq_some_iff.1 h.1).1).trans h.1, h.2⟩

theorem qCell {W : World} {q g : Nat} {x : Int} (h : W.heap[q]? = some (.cells #[.int .i64 x] 3 (0, 0)) ∧ g + 3 ≤ q) : W.cell? ⟨q, 0, none⟩ = some (.int .i64 x) := cell_of_row _ _ 0 _ _ (0, 0) h.1

theorem qFr {W : World} {q g : Nat} {x : Int} (h : W.heap[q]? = some (.cells #[.int .i64 x] 3 (0, 0)) ∧ g + 3 ≤ q) : W.frozen? ⟨q, 0, none⟩ = false := fr_of h.1

theorem qLt {W : World} {q g : Nat} {x : Int} (h : W.heap[q]? = some (.cells #[.int .i64 x] 3 (0, 0)) ∧ g + 3 ≤ q) : q < W.heap.size := (Array.getElem?_eq_some_iff.1 h.1).1

theorem qSet {W : World} {q g : Nat} {y x : Int} (h : W.heap[q]? = some (.cells #[.int .i64 y] 3 (0, 0)) ∧ g + 3 ≤ q) : (W.setCell ⟨q, 0, none⟩ (.int .i64 x)).cell? ⟨q, 0, none⟩ = some (.int .i64 x) := World.cell?_setCell_same _ _ _ (qCell h)

end Go.Proofs.Ytnfdacfhhkahhaa

namespace Go.Proofs.Ytnfdacfhhkahhaa
set_option linter.unusedVariables false
set_option linter.unusedSimpArgs false
open Go.RowKit

end Go.Proofs.Ytnfdacfhhkahhaa

namespace Go.Proofs.Ytnfdacfhhkahhaa
set_option linter.unusedVariables false
set_option linter.unusedSimpArgs false
open Go.RowKit

/-- Two configurations in boxes. -/
structure PA (P Q : Nat → Prop) (w0 : World) (g : Nat) (vl vh : Value) (ls hs : List Mem) (W : World) : Prop where
  l : W.heap[g]? = some (.cells #[vl] 27 (0, 0))
  h : W.heap[g + 1]? = some (.cells #[vh] 27 (0, 0))
  ml : MemsAt P 3 W vl ls
  mh : MemsAt Q 3 W vh hs
  bel : Below w0.heap.size w0 W

theorem PA.to {P Q : Nat → Prop} {w0 W W' : World} {g : Nat} {vl vh : Value} {ls hs : List Mem} (h : PA P Q w0 g vl vh ls hs W) (hb : Below W.heap.size W W') : PA P Q w0 g vl vh ls hs W' :=
  ⟨(hb.block _ (Array.getElem?_eq_some_iff.1 h.l).1).trans h.l, (hb.block _ (Array.getElem?_eq_some_iff.1 h.h).1).trans h.h, h.ml.below hb, h.mh.below hb, bstep h.bel hb⟩

theorem PA.cs {P Q : Nat → Prop} {w0 W : World} {g : Nat} {vl vh : Value} {ls hs : List Mem} (h : PA P Q w0 g vl vh ls hs W) : W.cell? ⟨g, 0, none⟩ = some vl ∧ W.cell? ⟨g + 1, 0, none⟩ = some vh ∧ PA P Q w0 g vl vh ls hs W :=
  ⟨cell_of_row _ _ 0 _ _ (0, 0) h.l, cell_of_row _ _ 0 _ _ (0, 0) h.h, h⟩

theorem paKeep {P Q : Nat → Prop} {w0 W W' : World} {g : Nat} {vl vh : Value} {ls hs : List Mem} (h : W.cell? ⟨g, 0, none⟩ = some vl ∧ W.cell? ⟨g + 1, 0, none⟩ = some vh ∧ PA P Q w0 g vl vh ls hs W) (hb : Below W.heap.size W W') : W'.cell? ⟨g, 0, none⟩ = some vl ∧ W'.cell? ⟨g + 1, 0, none⟩ = some vh ∧ PA P Q w0 g vl vh ls hs W' := (h.2.2.to hb).cs

theorem paSelf {P Q : Nat → Prop} {w0 W : World} {g : Nat} {vl vh : Value} {ls hs : List Mem} (h : W.cell? ⟨g, 0, none⟩ = some vl ∧ W.cell? ⟨g + 1, 0, none⟩ = some vh ∧ PA P Q w0 g vl vh ls hs W) : PA P Q w0 g vl vh ls hs W := h.2.2

theorem PA.new {P Q : Nat → Prop} {w : World} {vl vh : Value} {ls hs : List Mem} (h1 : MemsAt P 3 w vl ls) (h2 : MemsAt Q 3 w vh hs) : PA P Q w w.heap.size vl vh ls hs ((w.alloc (.cells #[vl] 27)).alloc (.cells #[vh] 27)) :=
  ⟨alloc_on (alloc_at rfl), alloc_at (alloc_sz _ _), h1.below (balloc (balloc (bref w) _) _), h2.below (balloc (balloc (bref w) _) _), balloc (balloc (bref w) _) _⟩

/-- The trusts of a declared member, and the boxes. -/
def SV (P Q : Nat → Prop) (w0 : World) (g b off b' off' k n c d : Nat) (t t' : Int) (u1 u2 y1 y2 : Value) (T U : Tree) (ls hs : List Mem) (W : World) : Prop :=
  W.cell? ⟨g, 0, none⟩ = some (.slice (some ⟨b, off, none⟩) n c) ∧ W.cell? ⟨g + 1, 0, none⟩ = some (.slice (some ⟨b', off', none⟩) n d) ∧ W.cell? ⟨b, off + k * 4 + 1, none⟩ = some (.int .i64 t) ∧ W.cell? ⟨b, off + k * 4 + 2, none⟩ = some u1 ∧ W.cell? ⟨b, off + k * 4 + 3, none⟩ = some u2 ∧ W.cell? ⟨b', off' + k * 4 + 1, none⟩ = some (.int .i64 t') ∧ W.cell? ⟨b', off' + k * 4 + 2, none⟩ = some y1 ∧ W.cell? ⟨b', off' + k * 4 + 3, none⟩ = some y2 ∧
    (PA P Q w0 g (.slice (some ⟨b, off, none⟩) n c) (.slice (some ⟨b', off', none⟩) n d) ls hs W ∧ TAt P 3 W (.int .i64 t) u1 u2 T ∧ TAt Q 3 W (.int .i64 t') y1 y2 U)

theorem SV.keep {P Q : Nat → Prop} {w0 W W' : World} {g b off b' off' k n c d : Nat} {t t' : Int} {u1 u2 y1 y2 : Value} {T U : Tree} {ls hs : List Mem} (h : SV P Q w0 g b off b' off' k n c d t t' u1 u2 y1 y2 T U ls hs W) (hb : Below W.heap.size W W') : SV P Q w0 g b off b' off' k n c d t t' u1 u2 y1 y2 T U ls hs W' := by
  obtain ⟨e0, e1, e2, e3, e4, e5, e6, e7, h1, h2, h3⟩ := h
  exact ⟨(hb.cell (cell_lt e0)).trans e0, (hb.cell (cell_lt e1)).trans e1, (hb.cell (cell_lt e2)).trans e2, (hb.cell (cell_lt e3)).trans e3, (hb.cell (cell_lt e4)).trans e4, (hb.cell (cell_lt e5)).trans e5, (hb.cell (cell_lt e6)).trans e6, (hb.cell (cell_lt e7)).trans e7, h1.to hb, h2.below hb, h3.below hb⟩

theorem svL {P Q : Nat → Prop} {w0 W : World} {g b off b' off' k n c d : Nat} {t t' : Int} {u1 u2 y1 y2 : Value} {T U : Tree} {ls hs : List Mem} (h : SV P Q w0 g b off b' off' k n c d t t' u1 u2 y1 y2 T U ls hs W) : PA P Q w0 g (.slice (some ⟨b, off, none⟩) n c) (.slice (some ⟨b', off', none⟩) n d) ls hs W ∧ TAt P 3 W (.int .i64 t) u1 u2 T ∧ TAt Q 3 W (.int .i64 t') y1 y2 U := h.2.2.2.2.2.2.2.2

theorem PairM.decl {ls hs : List Mem} (h : PairM ls hs) : declS hs hs.length = declS ls ls.length := by
  apply Nat.eq_of_testBit_eq
  intro k
  rw [declS_iff, declS_iff, h.len]
  rcases Nat.lt_or_ge k ls.length with hk | hk
  · have e1 := List.getElem?_eq_getElem hk
    have e2 := List.getElem?_eq_getElem (l := hs) (i := k) (by rw [h.len]; exact hk)
    rw [List.getD_eq_getElem?_getD, List.getD_eq_getElem?_getD, e1, e2]
    show (decide _ && (hs[k]'(by rw [h.len]; exact hk)).1) = (decide _ && (ls[k]).1)
    rw [h.dec k _ _ e1 e2]
  · rw [decide_eq_false (by omega)]; rfl

theorem PairM.sat {ls hs : List Mem} (hp : PairM ls hs) {k : Nat} {l h : Mem} (e1 : ls[k]? = some l) (e2 : hs[k]? = some h) (hd : l.1 = true) : ∀ s, s < 1024 → satB 3 h.2 ((s : Nat) : Int) = true → satB 3 l.2 (s : Int) = true := fun s hs h => by
  rw [sat_of hs] at h ⊢
  exact hp.imp k l _ e1 e2 hd _ h

theorem declS_memD {ms : List Mem} {k : Nat} (h : (declS ms ms.length).testBit k = true) : ∃ m, ms[k]? = some m ∧ m.1 = true := by
  have hk := declS_bit h
  rw [declS_iff, decide_eq_true hk, Bool.true_and, List.getD_eq_getElem?_getD, List.getElem?_eq_getElem hk] at h
  exact ⟨_, List.getElem?_eq_getElem hk, h⟩

end Go.Proofs.Ytnfdacfhhkahhaa

namespace Go.Proofs.Ytnfdacfhhkahhaa
set_option linter.unusedVariables false
set_option linter.unusedSimpArgs false
open Go.RowKit

def orI (x y : Int) : Int := if x = 0 then y else x

def cmpI (a b : Int) : Int := if a < b then -1 else if b < a then 1 else 0

/-- The place of a set in the order of sets. -/
def keyC (s : Nat) : Nat := popc s * 1024 + s

/-- What nodeset.Compare answers. -/
def cmpN (a b : Int) : Int := if setB a = setB b then (if setB a = true then orI (cmpI (popc a.toNat : Nat) (popc b.toNat : Nat)) (cmpI a b) else cmpI a b) else if setB b = true then -1 else 1

/-- The three keys of the order of sets. -/
def rkA (a : Int) : Int := if setB a = true then 1 else 0

def rkB (a : Int) : Int := if setB a = true then (popc a.toNat : Nat) else 0

theorem orI_lt (x y : Int) : (orI x y < 0) ↔ (x < 0 ∨ (x = 0 ∧ y < 0)) := by unfold orI; split <;> omega

theorem cmpI_lt (x y : Int) : (cmpI x y < 0) ↔ x < y := by unfold cmpI; split <;> (try split) <;> omega

theorem cmpI_eq (x y : Int) : (cmpI x y = 0) ↔ x = y := by unfold cmpI; split <;> (try split) <;> omega

theorem cmpN_lt (x y : Int) : (cmpN x y < 0) ↔ (rkA x < rkA y ∨ (rkA x = rkA y ∧ (rkB x < rkB y ∨ (rkB x = rkB y ∧ x < y)))) := by
  unfold cmpN rkA rkB
  cases setB x <;> cases setB y <;> simp [orI_lt, cmpI_lt, cmpI_eq]

theorem cmpN_cast (s t : Nat) (hs : s < 1024) (ht : t < 1024) : (cmpN s t < 0) ↔ keyC s < keyC t := by
  have h1 : setB (s : Int) = true := setB_iff.2 ⟨by omega, by omega⟩
  have h2 : setB (t : Int) = true := setB_iff.2 ⟨by omega, by omega⟩
  rw [cmpN_lt]
  unfold rkA rkB keyC
  rw [if_pos h1, if_pos h2, if_pos h1, if_pos h2]
  simp only [Int.toNat_natCast, Int.lt_irrefl, false_or, true_and, Int.ofNat_lt, Int.natCast_inj]
  omega

theorem dif_nat (a b : Nat) (ha : a < 1024) (hb : b < 1024) : bits .andNot .i64 (a : Int) (b : Int) = ((a ^^^ (a &&& b) : Nat) : Int) := by
  have hx : a ^^^ (a &&& b) < 2 ^ 63 := Nat.xor_lt_two_pow (by omega) (Nat.lt_of_le_of_lt Nat.and_le_left (by omega))
  show IntKind.i64.wrap ((BitVec.ofInt 64 (a : Int) &&& ~~~BitVec.ofInt 64 (b : Int)).toNat : Int) = _
  have e : (BitVec.ofInt 64 (a : Int) &&& ~~~BitVec.ofInt 64 (b : Int)).toNat = a ^^^ (a &&& b) := by
    apply Nat.eq_of_testBit_eq
    intro i
    rw [BitVec.toNat_and, BitVec.toNat_not, ofInt_i64 a (by omega), ofInt_i64 b (by omega), Nat.testBit_and, Nat.testBit_xor, Nat.testBit_and]
    have h2 : (2 : Nat) ^ 64 - 1 - b = 2 ^ 64 - (b + 1) := by omega
    rw [h2, Nat.testBit_two_pow_sub_succ (by omega)]
    rcases Nat.lt_or_ge i 64 with hi | hi
    · simp only [hi, decide_true, Bool.true_and]
      cases a.testBit i <;> cases b.testBit i <;> rfl
    · have h10 : (1024 : Nat) ≤ 2 ^ i := Nat.le_trans (by decide) (Nat.pow_le_pow_right (n := 2) (by omega) hi)
      rw [Nat.testBit_lt_two_pow (show a < 2 ^ i by omega)]; rfl
  rw [e, IntKind.wrap_i64]
  omega

/-- Is t a subset of s? -/
def subB (t s : Nat) : Bool := t &&& s == t

theorem xor_zero {a b : Nat} : a ^^^ b = 0 ↔ a = b := by
  constructor
  · intro h
    apply Nat.eq_of_testBit_eq
    intro i
    have := congrArg (fun x => x.testBit i) h
    simp only [Nat.testBit_xor, Nat.zero_testBit] at this
    revert this
    cases a.testBit i <;> cases b.testBit i <;> simp
  · rintro rfl; exact Nat.xor_self _

theorem andnot_sub (t s : Nat) (ht : t < 1024) (hs : s < 1024) : (bits .andNot .i64 (t : Int) (s : Int) == 0) = subB t s := by
  rw [dif_nat t s ht hs]
  unfold subB
  rw [Bool.eq_iff_iff]
  simp only [beq_iff_eq]
  rw [show ((0 : Int)) = ((0 : Nat) : Int) from rfl, Int.natCast_inj, xor_zero]
  exact eq_comm

end Go.Proofs.Ytnfdacfhhkahhaa

namespace Go.Proofs.Ytnfdacfhhkahhaa
end Go.Proofs.Ytnfdacfhhkahhaa

namespace Go.Proofs.Ytnfdacfhhkahhaa
set_option linter.unusedVariables false
set_option linter.unusedSimpArgs false
open Go.RowKit Go.Sort

theorem ltN_iff (x y : Int) : Go.Proofs.ltOf cmpN x y = true ↔ (rkA x < rkA y ∨ (rkA x = rkA y ∧ (rkB x < rkB y ∨ (rkB x = rkB y ∧ x < y)))) := by
  unfold Go.Proofs.ltOf
  rw [decide_eq_true_iff, cmpN_lt]

theorem ltN_not (x y : Int) : Go.Proofs.ltOf cmpN x y = false ↔ ¬ (rkA x < rkA y ∨ (rkA x = rkA y ∧ (rkB x < rkB y ∨ (rkB x = rkB y ∧ x < y)))) := by
  rw [← ltN_iff, Bool.not_eq_true]

theorem swoN : SWO (Go.Proofs.ltOf cmpN) where
  irrefl x := by rw [ltN_not]; omega
  trans x y z h1 h2 := by rw [ltN_iff] at *; omega
  ntrans x y z h1 h2 := by rw [ltN_not] at *; omega

theorem totN (x y : Int) (h1 : Go.Proofs.ltOf cmpN x y = false) (h2 : Go.Proofs.ltOf cmpN y x = false) : x = y := by rw [ltN_not] at *; omega

def zs (l : List Nat) : List Int := l.map (fun t : Nat => (t : Int))

theorem zs_len (l : List Nat) : (zs l).length = l.length := List.length_map _

theorem zs_get (l : List Nat) (k : Nat) : (zs l).getD k 0 = ((l.getD k 0 : Nat) : Int) := by
  unfold zs
  rw [List.getD_eq_getElem?_getD, List.getD_eq_getElem?_getD, List.getElem?_map]
  cases l[k]? <;> rfl

theorem zs_snoc (l : List Nat) (x : Nat) : zs (l ++ [x]) = zs l ++ [(x : Int)] := by unfold zs; rw [List.map_append]; rfl

theorem NodesAt.of_ownZ {W : World} {B : Nat} {v : Value} {l : List Nat} (h : W.ownsRow B 3 1 v l.length ((zs l).map (Value.int .i64))) : NodesAt (fun b => B ≤ b) W v (zs l) := NodesAt.of_own (by rw [zs_len]; exact h)

theorem own_snocZ {w : World} {v : Value} {B : Nat} {l : List Nat} {x : Nat} (h : w.ownsRow B 3 1 v (l.length + 1) ((zs l).map (Value.int .i64) ++ [.int .i64 (x : Int)])) : w.ownsRow B 3 1 v (l ++ [x]).length ((zs (l ++ [x])).map (Value.int .i64)) := by
  rw [zs_snoc, List.map_append, List.length_append]; exact h

/-- In the order of sets, each once. -/
def Asc (l : List Nat) : Prop := l.Pairwise (fun a b => keyC a < keyC b)

theorem keyC_inj {a b : Nat} (ha : a < 1024) (hb : b < 1024) (h : keyC a = keyC b) : a = b := by unfold keyC at h; omega

theorem sorted_nat (l : List Nat) (hl : ∀ t ∈ l, t < 1024) (hd : l.Nodup) :
    ∃ m : List Nat, (zs l).mergeSort (fun x y => !(Go.Proofs.ltOf cmpN) y x) = zs m ∧ m.Perm l ∧ Asc m := by
  have hp := List.mergeSort_perm (zs l) (fun x y => !(Go.Proofs.ltOf cmpN) y x)
  have hs := List.pairwise_mergeSort (le := fun x y => !(Go.Proofs.ltOf cmpN) y x)
    (fun a b c h1 h2 => by simp only [Bool.not_eq_true', ltN_not] at *; omega)
    (fun a b => by
      by_cases h : Go.Proofs.ltOf cmpN b a = true
      · have : Go.Proofs.ltOf cmpN a b = false := by rw [ltN_iff] at h; rw [ltN_not]; omega
        simp [this]
      · simp [Bool.eq_false_iff.2 h]) (zs l)
  generalize (zs l).mergeSort (fun x y => !(Go.Proofs.ltOf cmpN) y x) = ts at *
  have hz : ∀ x ∈ ts, ∃ t : Nat, x = (t : Int) ∧ t ∈ l := fun x hx => by
    have := hp.mem_iff.1 hx
    obtain ⟨t, ht, rfl⟩ := List.mem_map.1 this
    exact ⟨t, rfl, ht⟩
  have hts : ts = zs (ts.map Int.toNat) := by
    unfold zs
    rw [List.map_map]
    conv => lhs; rw [← List.map_id ts]
    exact List.map_congr_left (fun x hx => by obtain ⟨t, rfl, _⟩ := hz x hx; rfl)
  have hpm : (ts.map Int.toNat).Perm l := by
    have := hp.map Int.toNat
    refine this.trans (List.Perm.of_eq ?_)
    unfold zs
    rw [List.map_map]
    conv => rhs; rw [← List.map_id l]
    exact List.map_congr_left (fun x _ => rfl)
  refine ⟨ts.map Int.toNat, hts, hpm, ?_⟩
  have hnd : (ts.map Int.toNat).Nodup := hpm.nodup_iff.2 hd
  unfold Asc
  generalize hm : ts.map Int.toNat = m at *
  rw [hts] at hs
  have hs2 : m.Pairwise (fun a b : Nat => (!(Go.Proofs.ltOf cmpN) (b : Int) (a : Int)) = true) := List.pairwise_map.1 hs
  have h3 := (List.Pairwise.and hs2 (List.nodup_iff_pairwise_ne.1 hnd))
  refine List.Pairwise.imp_of_mem (fun {a b} ha hb h => ?_) h3
  obtain ⟨h1, h2⟩ := h
  have ha' := hl a (hpm.mem_iff.1 ha)
  have hb' := hl b (hpm.mem_iff.1 hb)
  have h4 : ¬ keyC b < keyC a := by
    rw [← cmpN_cast b a hb' ha']
    simp only [Bool.not_eq_true'] at h1
    unfold Go.Proofs.ltOf at h1
    exact of_decide_eq_false h1
  rcases Nat.lt_trichotomy (keyC a) (keyC b) with h | h | h
  · exact h
  · exact (h2 (keyC_inj ha' hb' h)).elim
  · exact (h4 h).elim

end Go.Proofs.Ytnfdacfhhkahhaa

namespace Go.Proofs.Ytnfdacfhhkahhaa
set_option linter.unusedVariables false
set_option linter.unusedSimpArgs false
open Go.RowKit

/-- The sets below 2^n of which p holds, in order. -/
def IsFound (n : Nat) (p : Nat → Bool) (l : List Nat) : Prop := Asc l ∧ (∀ t, t ∈ l ↔ (t < 2 ^ n ∧ p t = true)) ∧ l.length ≤ 1024

end Go.Proofs.Ytnfdacfhhkahhaa

namespace Go.Proofs.Ytnfdacfhhkahhaa
set_option linter.unusedVariables false
set_option linter.unusedSimpArgs false
open Go.RowKit

/-- The sets below 2^n of which p holds, in order. -/
def IsFind (n : Nat) (p : Nat → Bool) (l : List Nat) : Prop := Asc l ∧ (∀ t, t ∈ l ↔ (t < 2 ^ n ∧ p t = true)) ∧ l.length ≤ 1024

theorem subB_iff {t s : Nat} : subB t s = true ↔ t &&& s = t := by unfold subB; simp

theorem subB_refl (t : Nat) : subB t t = true := subB_iff.2 (Nat.and_self t)

theorem subB_trans {a b c : Nat} (h1 : subB a b = true) (h2 : subB b c = true) : subB a c = true := by
  rw [subB_iff] at *
  rw [← h1, Nat.and_assoc, h2]

theorem subB_bit {t s k : Nat} (h : subB t s = true) (hk : t.testBit k = true) : s.testBit k = true := by
  rw [subB_iff] at h
  rw [← h, Nat.testBit_and, Bool.and_eq_true] at hk
  exact hk.2

theorem subB_le {t s : Nat} (h : subB t s = true) : t ≤ s := by
  rw [subB_iff] at h
  rw [← h]; exact Nat.and_le_right

theorem subB_popc {t s : Nat} (h : subB t s = true) : popc t ≤ popc s := by
  unfold popc
  exact List.countP_mono_left (fun i _ hi => subB_bit h hi)

theorem subB_key {t s : Nat} (h : subB t s = true) (hne : t ≠ s) : keyC t < keyC s := by
  have h1 := subB_popc h
  have h2 := subB_le h
  unfold keyC
  omega

/-- The sets of which p holds and of which no proper subset is such a set, in order. -/
def IsLeast (p : Nat → Bool) (l : List Nat) : Prop := Asc l ∧ (∀ t, t ∈ l ↔ (t < 1024 ∧ p t = true ∧ ∀ y, p y = true → subB y t = true → y = t)) ∧ l.length ≤ 1024

theorem asc_nodup {l : List Nat} (h : Asc l) : l.Nodup := List.nodup_iff_pairwise_ne.2 (h.imp (fun h e => by rw [e] at h; exact Nat.lt_irrefl _ h))

theorem asc_get {l : List Nat} (h : Asc l) {i j : Nat} {a b : Nat} (ha : l[i]? = some a) (hb : l[j]? = some b) (hk : keyC a < keyC b) : i < j := by
  rcases Nat.lt_trichotomy i j with hij | hij | hij
  · exact hij
  · subst hij; rw [ha] at hb; cases hb; omega
  · obtain ⟨h1, h2⟩ := List.getElem?_eq_some_iff.1 ha
    obtain ⟨h3, h4⟩ := List.getElem?_eq_some_iff.1 hb
    have := List.pairwise_iff_getElem.1 h j i h3 h1 hij
    rw [h2, h4] at this
    omega

/-- Two lists in order with the same sets are one. -/
theorem asc_ext : ∀ {l m : List Nat}, Asc l → Asc m → (∀ t, t ∈ l ↔ t ∈ m) → l = m
  | [], [], _, _, _ => rfl
  | [], b :: m, _, _, h => by have := (h b).2 (by simp); cases this
  | a :: l, [], _, _, h => by have := (h a).1 (by simp); cases this
  | a :: l, b :: m, h1, h2, h => by
    obtain ⟨ha, hl⟩ := List.pairwise_cons.1 h1
    obtain ⟨hb, hm⟩ := List.pairwise_cons.1 h2
    have e : a = b := by
      rcases List.mem_cons.1 ((h a).1 (by simp)) with h3 | h3
      · exact h3
      · rcases List.mem_cons.1 ((h b).2 (by simp)) with h4 | h4
        · exact h4.symm
        · have := hb a h3; have := ha b h4; omega
    subst e
    rw [asc_ext hl hm (fun t => by
      have h3 := h t
      rw [List.mem_cons, List.mem_cons] at h3
      constructor
      · intro ht
        rcases h3.1 (.inr ht) with h4 | h4
        · subst h4; have := ha t ht; omega
        · exact h4
      · intro ht
        rcases h3.2 (.inr ht) with h4 | h4
        · subst h4; have := hb t ht; omega
        · exact h4)]

theorem isLeast_ext {p q : Nat → Bool} {l m : List Nat} (h1 : IsLeast p l) (h2 : IsLeast q m) (hpq : ∀ t, t < 1024 → p t = q t) (hp : ∀ t, p t = true → t < 1024) (hq : ∀ t, q t = true → t < 1024) : l = m := by
  have e : p = q := by
    funext t
    rcases Nat.lt_or_ge t 1024 with h | h
    · exact hpq t h
    · cases ha : p t <;> cases hb : q t
      · rfl
      · have := hq t hb; omega
      · have := hp t ha; omega
      · rfl
  subst e
  exact asc_ext h1.1 h2.1 (fun t => by rw [h1.2.1 t, h2.2.1 t])

/-- Below each set of which p holds there is a least one. -/
theorem least_below {p : Nat → Bool} : ∀ (n t : Nat), t ≤ n → p t = true → ∃ y, p y = true ∧ subB y t = true ∧ ∀ z, p z = true → subB z y = true → z = y := by
  intro n
  induction n with
  | zero =>
    intro t ht hp
    obtain rfl : t = 0 := by omega
    exact ⟨0, hp, subB_refl _, fun z _ hz => by have := subB_le hz; omega⟩
  | succ n ih =>
    intro t ht hp
    by_cases h : ∃ z, p z = true ∧ subB z t = true ∧ z ≠ t
    · obtain ⟨z, h1, h2, h3⟩ := h
      have := subB_le h2
      obtain ⟨y, y1, y2, y3⟩ := ih z (by omega) h1
      exact ⟨y, y1, subB_trans y2 h2, y3⟩
    · exact ⟨t, hp, subB_refl _, fun z hz hs => Classical.byContradiction (fun hne => h ⟨z, hz, hs, hne⟩)⟩

/-- One set further. -/
theorem least_step {p : Nat → Bool} {n : Nat} (hn : ∀ t, p t = true → t < 2 ^ n) {L : List Nat} (hL : IsFind n p L) (q : Nat → Bool) (hq : ∀ t, q t = true ↔ (p t = true ∧ ∀ y, p y = true → subB y t = true → y = t)) {k s : Nat} (hk : L[k]? = some s) :
    ((L.take k).filter q).any (fun t => subB t s) = !q s := by
  have hps := ((hL.2.1 s).1 (List.mem_of_getElem? hk)).2
  rw [Bool.eq_iff_iff]
  simp only [Bool.not_eq_true', List.any_eq_true]
  constructor
  · rintro ⟨t, ht, hts⟩
    obtain ⟨ht1, ht2⟩ := List.mem_filter.1 ht
    cases hqs : q s
    · rfl
    · have e := ((hq s).1 hqs).2 t ((hq t).1 ht2).1 hts
      subst e
      obtain ⟨i, hi⟩ := List.mem_iff_getElem?.1 ht1
      have hik : i < k := by
        have := (List.getElem?_eq_some_iff.1 hi).1
        simp at this; omega
      rw [List.getElem?_take_of_lt hik] at hi
      have h2 := List.getElem?_eq_some_iff.1 hi
      have h3 := List.getElem?_eq_some_iff.1 hk
      obtain ⟨h2, e2⟩ := h2
      obtain ⟨h3, e3⟩ := h3
      have := List.pairwise_iff_getElem.1 hL.1 i k h2 h3 hik
      rw [e2, e3] at this
      omega
  · intro hqs
    obtain ⟨y, y1, y2, y3⟩ := least_below (p := p) s s (Nat.le_refl _) hps
    have hne : y ≠ s := by
      rintro rfl
      have := (hq y).2 ⟨hps, fun z hz hs => y3 z hz hs⟩
      rw [hqs] at this; cases this
    have hy : y ∈ L := (hL.2.1 y).2 ⟨hn y y1, y1⟩
    obtain ⟨i, hi⟩ := List.mem_iff_getElem?.1 hy
    have hik := asc_get hL.1 hi hk (subB_key y2 hne)
    refine ⟨y, List.mem_filter.2 ⟨List.mem_iff_getElem?.2 ⟨i, by rw [List.getElem?_take_of_lt hik]; exact hi⟩, (hq y).2 ⟨y1, y3⟩⟩, y2⟩

theorem least_end {p : Nat → Bool} (hn : ∀ t, p t = true → t < 1024) {L : List Nat} (hL : IsFind 10 p L) (q : Nat → Bool) (hq : ∀ t, q t = true ↔ (p t = true ∧ ∀ y, p y = true → subB y t = true → y = t)) : IsLeast p (L.filter q) :=
  ⟨hL.1.filter _, fun t => by
    rw [List.mem_filter, hL.2.1 t, hq t]
    constructor
    · rintro ⟨⟨h1, _⟩, h2, h3⟩; exact ⟨h1, h2, h3⟩
    · rintro ⟨h1, h2, h3⟩; exact ⟨⟨h1, h2⟩, h2, h3⟩, Nat.le_trans (List.length_filter_le _ _) hL.2.2⟩

/-- The sets of a list of ints. -/
def pz (z : List Int) (t : Nat) : Bool := decide (t < 1024) && decide ((t : Int) ∈ z)

theorem pz_iff {z : List Int} {t : Nat} : pz z t = true ↔ t < 1024 ∧ (t : Int) ∈ z := by unfold pz; simp

theorem pz_lt {z : List Int} {t : Nat} (h : pz z t = true) : t < 1024 := (pz_iff.1 h).1

/-- Is it a least one? -/
noncomputable def leB (p : Nat → Bool) (t : Nat) : Bool := @decide (p t = true ∧ ∀ y, p y = true → subB y t = true → y = t) (Classical.propDecidable _)

theorem leB_iff (p : Nat → Bool) (t : Nat) : leB p t = true ↔ (p t = true ∧ ∀ y, p y = true → subB y t = true → y = t) := by unfold leB; exact @decide_eq_true_iff _ (Classical.propDecidable _)

end Go.Proofs.Ytnfdacfhhkahhaa

namespace Go.Proofs.Ytnfdacfhhkahhaa
set_option linter.unusedVariables false
set_option linter.unusedSimpArgs false
open Go.RowKit

def cmpR (s t : Nat) : Int := if keyC s < keyC t then -1 else if s = t then 0 else 1

theorem keyC_lt (s t : Nat) (hs : s < 1024) (ht : t < 1024) : keyC s < keyC t ↔ (popc s < popc t ∨ (popc s = popc t ∧ s < t)) := by
  unfold keyC
  omega

theorem cmpN_neg (s t : Nat) (hs : s < 1024) (ht : t < 1024) (h : keyC s < keyC t) : cmpN (s : Int) (t : Int) = -1 := by
  have h1 := (cmpN_cast s t hs ht).2 h
  have h2 : setB (s : Int) = true := setB_iff.2 ⟨by omega, by omega⟩
  have h3 : setB (t : Int) = true := setB_iff.2 ⟨by omega, by omega⟩
  revert h1
  unfold cmpN orI cmpI
  rw [h2, h3]
  simp only [if_true]
  split <;> (try split) <;> (try split) <;> (try split) <;> (try split) <;> omega

set_option maxHeartbeats 2000000 in
theorem rcompare_run (s t : Nat) (hs : s < 1024) (ht : t < 1024) (w : World) :
    Calls Try.prog 57 #[.int .i64 (s : Int), .int .i64 (t : Int)] w fun e w' => e = .returned (.int .i64 (cmpR s t)) ∧ w = w' := by
  have hsv := Lib.hid (show setB (s : Int) = true from setB_iff.2 ⟨by omega, by omega⟩)
  have htv := Lib.hid (show setB (t : Int) = true from setB_iff.2 ⟨by omega, by omega⟩)
  have hk := keyC_lt s t hs ht
  have HS := Lib.hid (fun W => rsetSize_run s hs W)
  have HT := Lib.hid (fun W => rsetSize_run t ht W)
  have hcr : cmpR s t = if keyC s < keyC t then -1 else if s = t then 0 else 1 := rfl
  have hps := popc_le s
  have hpt := popc_le t
  generalize cmpR s t = r at *
  generalize keyC s = ks at *
  generalize keyC t = kt at *
  have hst : s = t → popc s = popc t := fun h => by rw [h]
  generalize hpS : popc s = ps at *
  generalize hpT : popc t = pt at *
  clear hpS hpT
  rcases Nat.lt_trichotomy ps pt with h | h | h
  · obtain rfl : r = -1 := by rw [hcr, if_pos (hk.2 (.inl h))]
    clear hk hcr
    go_enter Try.func57, Try.ntmps57
    go_wp2_with fail
    refine (rsetValid_run _ _).mono ?_
    rintro e w2 ⟨rfl, rfl⟩
    rw [hsv.out]
    go_wp2_with fail
    refine (HS.out _).mono ?_
    rintro e w2 ⟨rfl, rfl⟩
    go_wp2_with fail
    refine (rsetValid_run _ _).mono ?_
    rintro e w2 ⟨rfl, rfl⟩
    rw [htv.out]
    go_wp2_with fail
    refine (HT.out _).mono ?_
    rintro e w2 ⟨rfl, rfl⟩
    go_wp2_with fail
    go_ret
    exact ⟨rfl, rfl⟩
  · subst h
    rcases Nat.lt_trichotomy s t with h1 | h1 | h1
    · obtain rfl : r = -1 := by rw [hcr, if_pos (hk.2 (.inr ⟨rfl, h1⟩))]
      clear hk hcr
      go_enter Try.func57, Try.ntmps57
      go_wp2_with fail
      refine (rsetValid_run _ _).mono ?_
      rintro e w2 ⟨rfl, rfl⟩
      rw [hsv.out]
      go_wp2_with fail
      refine (HS.out _).mono ?_
      rintro e w2 ⟨rfl, rfl⟩
      go_wp2_with fail
      refine (rsetValid_run _ _).mono ?_
      rintro e w2 ⟨rfl, rfl⟩
      rw [htv.out]
      go_wp2_with fail
      refine (HT.out _).mono ?_
      rintro e w2 ⟨rfl, rfl⟩
      go_wp2_with fail
      go_ret
      exact ⟨rfl, rfl⟩
    · obtain rfl : r = 0 := by rw [hcr, if_neg (fun h => by have := hk.1 h; omega), if_pos h1]
      clear hk hcr
      subst h1
      go_enter Try.func57, Try.ntmps57
      go_wp2_with fail
      refine (rsetValid_run _ _).mono ?_
      rintro e w2 ⟨rfl, rfl⟩
      rw [hsv.out]
      go_wp2_with fail
      refine (HS.out _).mono ?_
      rintro e w2 ⟨rfl, rfl⟩
      go_wp2_with fail
      refine (rsetValid_run _ _).mono ?_
      rintro e w2 ⟨rfl, rfl⟩
      rw [htv.out]
      go_wp2_with fail
      refine (HT.out _).mono ?_
      rintro e w2 ⟨rfl, rfl⟩
      go_wp2_with fail
      go_ret
      exact ⟨rfl, rfl⟩
    · obtain rfl : r = 1 := by rw [hcr, if_neg (fun h => by have := hk.1 h; omega), if_neg (by omega)]
      clear hk hcr
      go_enter Try.func57, Try.ntmps57
      go_wp2_with fail
      refine (rsetValid_run _ _).mono ?_
      rintro e w2 ⟨rfl, rfl⟩
      rw [hsv.out]
      go_wp2_with fail
      refine (HS.out _).mono ?_
      rintro e w2 ⟨rfl, rfl⟩
      go_wp2_with fail
      refine (rsetValid_run _ _).mono ?_
      rintro e w2 ⟨rfl, rfl⟩
      rw [htv.out]
      go_wp2_with fail
      refine (HT.out _).mono ?_
      rintro e w2 ⟨rfl, rfl⟩
      go_wp2_with fail
      go_ret
      exact ⟨rfl, rfl⟩
  · obtain rfl : r = 1 := by rw [hcr, if_neg (fun h1 => by have := hk.1 h1; omega), if_neg (fun h1 => by have := hst h1; omega)]
    clear hk hcr
    go_enter Try.func57, Try.ntmps57
    go_wp2_with fail
    refine (rsetValid_run _ _).mono ?_
    rintro e w2 ⟨rfl, rfl⟩
    rw [hsv.out]
    go_wp2_with fail
    refine (HS.out _).mono ?_
    rintro e w2 ⟨rfl, rfl⟩
    go_wp2_with fail
    refine (rsetValid_run _ _).mono ?_
    rintro e w2 ⟨rfl, rfl⟩
    rw [htv.out]
    go_wp2_with fail
    refine (HT.out _).mono ?_
    rintro e w2 ⟨rfl, rfl⟩
    go_wp2_with fail
    go_ret
    exact ⟨rfl, rfl⟩

end Go.Proofs.Ytnfdacfhhkahhaa

namespace Go.Proofs.Ytnfdacfhhkahhaa
end Go.Proofs.Ytnfdacfhhkahhaa

namespace Go.Proofs.Ytnfdacfhhkahhaa
set_option linter.unusedVariables false
set_option linter.unusedSimpArgs false
open Go.RowKit

set_option maxRecDepth 100000 in
theorem bl_fact (s : Nat) (hs : s < 1024) : s < 2 ^ Lib.bitLen s ∧ Lib.bitLen s ≤ 10 := by
  have all : ∀ s : Fin 1024, s.val < 2 ^ Lib.bitLen s.val ∧ Lib.bitLen s.val ≤ 10 := by decide +kernel
  exact all ⟨s, hs⟩

theorem sub_bits {t s : Nat} : subB t s = true ↔ ∀ k, t.testBit k = true → s.testBit k = true := by
  constructor
  · exact fun h k hk => subB_bit h hk
  · intro h
    rw [subB_iff]
    apply Nat.eq_of_testBit_eq
    intro k
    rw [Nat.testBit_and]
    cases hk : t.testBit k
    · rfl
    · rw [h k hk]; rfl

theorem sub_add {n t s : Nat} (ht : t < 2 ^ n) : subB (2 ^ n + t) s = (s.testBit n && subB t s) := by
  have e : ∀ k, (2 ^ n + t).testBit k = (decide (n = k) || t.testBit k) := fun k => by
    have h1 := Nat.two_pow_add_eq_or_of_lt ht 1
    rw [Nat.mul_one] at h1
    rw [h1, Nat.testBit_or, Nat.testBit_two_pow]
  have htn : t.testBit n = false := Nat.testBit_lt_two_pow ht
  rw [Bool.eq_iff_iff, Bool.and_eq_true, sub_bits, sub_bits]
  constructor
  · intro h
    exact ⟨h n (by rw [e]; simp), fun k hk => h k (by rw [e, hk]; simp)⟩
  · rintro ⟨h1, h2⟩ k hk
    rw [e, Bool.or_eq_true, decide_eq_true_iff] at hk
    rcases hk with rfl | hk
    · exact h1
    · exact h2 k hk

theorem sub_cnt (s : Nat) : ∀ n, (List.range (2 ^ n)).countP (fun t => subB t s) = 2 ^ popk s n
  | 0 => by
    have : subB 0 s = true := by unfold subB; simp
    simp [List.range_succ, this, popk]
  | n + 1 => by
    have e : 2 ^ (n + 1) = 2 ^ n + 2 ^ n := by omega
    have ih := sub_cnt s n
    rw [e, List.range_add, List.countP_append, List.countP_map, ih]
    have hb : popk s (n + 1) = popk s n + (if s.testBit n then 1 else 0) := by
      unfold popk
      rw [List.range_succ, List.countP_append, List.countP_singleton]
    cases hs : s.testBit n
    · have h0 : (List.range (2 ^ n)).countP ((fun t => subB t s) ∘ fun x => 2 ^ n + x) = 0 := by
        rw [List.countP_eq_zero]
        intro t ht
        have := sub_add (s := s) (List.mem_range.1 ht)
        simp [this, hs]
      rw [h0, hb, hs]; simp
    · have h0 : (List.range (2 ^ n)).countP ((fun t => subB t s) ∘ fun x => 2 ^ n + x) = (List.range (2 ^ n)).countP (fun t => subB t s) := by
        apply List.countP_congr
        intro t ht
        have := sub_add (s := s) (List.mem_range.1 ht)
        simp [this, hs]
      rw [h0, hb, hs, ih]
      simp [Nat.pow_succ]; omega

/-- What the law asks of the list of subsets. -/
theorem subs_law {s n : Nat} {l : List Nat} (hs : s < 1024) (hn : n ≤ 10) (hsn : s < 2 ^ n) (h : IsFound n (fun t => subB t s) l) :
    l.length = 2 ^ popc s ∧ l[0]? = some 0 ∧ l[l.length - 1]? = some s ∧ (∀ x ∈ l, x < 1024 ∧ x &&& s = x) ∧ (∀ i x y : Nat, l[i]? = some x → l[i + 1]? = some y → cmpR x y = -1) := by
  have h10 : 2 ^ n ≤ 2 ^ 10 := Nat.pow_le_pow_right (by omega) hn
  have hlt : ∀ x ∈ l, x < 1024 ∧ subB x s = true := fun x hx => by
    have h1 := (h.2.1 x).1 hx
    exact ⟨by omega, h1.2⟩
  have hp := List.pairwise_iff_getElem.1 h.1
  have hlen : l.length = 2 ^ popc s := by
    have hperm : l.Perm ((List.range (2 ^ 10)).filter (fun t => subB t s)) := by
      rw [List.perm_ext_iff_of_nodup (asc_nodup h.1) (List.nodup_iff_pairwise_ne.2 ((List.nodup_iff_pairwise_ne.1 List.nodup_range).filter _))]
      intro t
      rw [h.2.1 t, List.mem_filter, List.mem_range]
      constructor
      · rintro ⟨h1, h2⟩; exact ⟨by omega, h2⟩
      · rintro ⟨h1, h2⟩; exact ⟨Nat.lt_of_le_of_lt (subB_le h2) hsn, h2⟩
    rw [hperm.length_eq, ← List.countP_eq_length_filter, sub_cnt]
    rfl
  have h0 : 0 < l.length := by rw [hlen]; exact Nat.one_le_two_pow
  refine ⟨hlen, ?_, ?_, fun x hx => ⟨(hlt x hx).1, subB_iff.1 (hlt x hx).2⟩, fun i x y hx hy => ?_⟩
  · have hm : 0 ∈ l := (h.2.1 0).2 ⟨Nat.one_le_two_pow, by unfold subB; simp⟩
    obtain ⟨i, hi, e⟩ := List.mem_iff_getElem.1 hm
    rcases Nat.eq_zero_or_pos i with rfl | hpos
    · rw [List.getElem?_eq_getElem hi, e]
    · have h1 := hp 0 i h0 hi hpos
      rw [e] at h1
      have : keyC 0 = 0 := by decide +kernel
      omega
  · have hm : s ∈ l := (h.2.1 s).2 ⟨hsn, subB_refl s⟩
    obtain ⟨i, hi, e⟩ := List.mem_iff_getElem.1 hm
    have hl1 : l.length - 1 < l.length := by omega
    rcases Nat.lt_or_ge i (l.length - 1) with h1 | h1
    · have h2 := hp i (l.length - 1) hi hl1 h1
      rw [e] at h2
      have h3 := (hlt _ (List.getElem_mem hl1)).2
      by_cases hne : l[l.length - 1] = s
      · rw [hne] at h2; omega
      · have := subB_key h3 hne; omega
    · obtain rfl : i = l.length - 1 := by omega
      rw [List.getElem?_eq_getElem hi, e]
  · obtain ⟨hi, e1⟩ := List.getElem?_eq_some_iff.1 hx
    obtain ⟨hj, e2⟩ := List.getElem?_eq_some_iff.1 hy
    have h1 := hp i (i + 1) hi hj (by omega)
    rw [e1, e2] at h1
    unfold cmpR
    rw [if_pos h1]

theorem own_low {W : World} {B B' : Nat} {v : Value} {n : Nat} {vs : List Value} (h : W.ownsRow B 3 1 v n vs) (hB : B' ≤ B) : W.ownsRow B' 3 1 v n vs := by
  refine ⟨h.1, ?_⟩
  rcases h.2 with h2 | ⟨gg, cap, cur, e1, e2, e3, e4⟩
  · exact .inl h2
  · exact .inr ⟨gg, cap, cur, e1, Nat.le_trans hB e2, e3, e4⟩

end Go.Proofs.Ytnfdacfhhkahhaa

namespace Go.Proofs.Ytnfdacfhhkahhaa
set_option linter.unusedVariables false
set_option linter.unusedSimpArgs false
open Go.RowKit

def GoodB (s : Nat) (ls hs : List Mem) (b : Nat) : Prop := Sub s b ∧ AvT hs b ∧ InT (D3.delM b ls)

def AllOf (s : Nat) (ls hs : List Mem) (l : List Nat) (k : Nat) (L : List Nat) : Prop := L.Sublist (l.take k) ∧ ∀ b, b ∈ L ↔ b ∈ l.take k ∧ GoodB s ls hs b

theorem AllOf.zero (s : Nat) (ls hs : List Mem) (l : List Nat) : AllOf s ls hs l 0 [] := ⟨by simp, fun b => by simp⟩

theorem AllOf.skip {s : Nat} {ls hs : List Mem} {l L : List Nat} {k b : Nat} (h : AllOf s ls hs l k L) (hb : l[k]? = some b) (hn : ¬ GoodB s ls hs b) : AllOf s ls hs l (k + 1) L := by
  unfold AllOf
  rw [List.take_add_one, hb]
  refine ⟨h.1.trans (List.sublist_append_left _ _), fun x => ?_⟩
  rw [h.2 x, List.mem_append]
  constructor
  · rintro ⟨h1, h2⟩; exact ⟨.inl h1, h2⟩
  · rintro ⟨h1 | h1, h2⟩
    · exact ⟨h1, h2⟩
    · have : x = b := by simpa using h1
      rw [this] at h2; exact absurd h2 hn

theorem AllOf.add {s : Nat} {ls hs : List Mem} {l L : List Nat} {k b : Nat} (h : AllOf s ls hs l k L) (hb : l[k]? = some b) (hn : GoodB s ls hs b) : AllOf s ls hs l (k + 1) (L ++ [b]) := by
  unfold AllOf
  rw [List.take_add_one, hb]
  refine ⟨List.Sublist.append h.1 (by simp), fun x => ?_⟩
  rw [List.mem_append, h.2 x, List.mem_append]
  constructor
  · rintro (⟨h1, h2⟩ | h1)
    · exact ⟨.inl h1, h2⟩
    · have : x = b := by simpa using h1
      rw [this]; exact ⟨.inr (by simp), hn⟩
  · rintro ⟨h1 | h1, h2⟩
    · exact .inl ⟨h1, h2⟩
    · exact .inr (by simpa using h1)

/-- What All returns. -/
def AllIs (s : Nat) (ls hs : List Mem) (L : List Nat) : Prop := Asc L ∧ L.length ≤ 1024 ∧ ∀ b, b ∈ L ↔ b < 2 ^ ls.length ∧ GoodB s ls hs b

theorem AllOf.done {s n n' : Nat} {ls hs : List Mem} {l L : List Nat} (hn : ls.length = n) (hl : s < 2 ^ n) (hn' : 2 ^ n - 1 < 2 ^ n') (hf : IsFound n' (fun t => subB t (2 ^ n - 1)) l) (h : AllOf s ls hs l l.length L) : AllIs s ls hs L := by
  obtain ⟨h1, h2⟩ := h
  rw [List.take_length] at h1 h2
  refine ⟨hf.1.sublist h1, Nat.le_trans h1.length_le hf.2.2, fun b => ?_⟩
  rw [h2 b, hf.2.1 b, hn]
  constructor
  · rintro ⟨⟨_, h3⟩, h4⟩
    refine ⟨Nat.lt_pow_two_of_testBit _ (fun k hk => ?_), h4⟩
    cases hb : b.testBit k
    · rfl
    · have h5 := sub_bits.1 h3 k hb
      rw [Nat.testBit_two_pow_sub_one, decide_eq_true_iff] at h5
      omega
  · rintro ⟨h3, h4⟩
    refine ⟨⟨by omega, sub_bits.2 (fun k hk => ?_)⟩, h4⟩
    rw [Nat.testBit_two_pow_sub_one, decide_eq_true (lt_bit h3 hk)]

theorem minS_zero_iff {s b : Nat} : minS s b = 0 ↔ Sub s b := by
  constructor
  · intro h k hk
    have := minS_bit s b k
    rw [h, Nat.zero_testBit, hk] at this
    cases hb : b.testBit k
    · rw [hb] at this; cases this
    · rfl
  · intro h
    apply Nat.eq_of_testBit_eq
    intro k
    rw [minS_bit, Nat.zero_testBit]
    cases hk : s.testBit k
    · rfl
    · rw [h k hk]; rfl

theorem zs_getD {l : List Nat} {k b : Nat} (h : l[k]? = some b) : (zs l).getD k 0 = (b : Int) := by
  unfold zs
  rw [List.getD_eq_getElem?_getD, List.getElem?_map, h]; rfl

end Go.Proofs.Ytnfdacfhhkahhaa

namespace Go.Proofs.Ytnfdacfhhkahhaa
set_option linter.unusedVariables false
set_option linter.unusedSimpArgs false
open Go.RowKit

set_option maxRecDepth 100000 in
set_option maxHeartbeats 400000 in
theorem rdmembers_run (A : Option Addr) (n c : Nat) (hn : n ≤ 10) (w : World) : Calls Try.prog 85 #[.agg #[.slice A n c]] w fun e w' => e = .returned (.int .i64 ((2 ^ n - 1 : Nat) : Int)) ∧ Below w.heap.size w w' := by
  have hp := pow11 n (by omega)
  have hp1 : 1 ≤ 2 ^ n := Nat.one_le_pow _ _ (by omega)
  have hp2 : 2 ^ n ≤ 2 ^ 10 := Nat.pow_le_pow_right (by omega) hn
  obtain ⟨N, hN⟩ : ∃ N, 2 ^ n = N := ⟨_, rfl⟩
  rw [hN] at hp hp1 hp2 ⊢
  clear hN
  have hw1 : wrap64 ((N : Int) - 1) = (N : Int) - 1 := by unfold wrap64; omega
  have hn64 : (n : Int) < 64 := by omega
  have HE := Lib.hid (show ((N - 1 : Nat) : Int) = (N : Int) - 1 by omega)
  go_enter Try.func85, Try.ntmps85
  go_wp2_with fail
  go_ret
  exact ⟨by rw [HE.out]; rfl, balloc (bref _) _⟩

set_option maxRecDepth 100000 in
set_option maxHeartbeats 2000000 in
theorem rdset_run (P : Nat → Prop) (ms : List Mem) (v : Value) (s : Nat) (w : World) (hl : ms.length ≤ 10) (hs : s < 2 ^ ms.length) (h : MemsAt P 3 w v ms) (hok : D3.MemsOk ms.length ms) :
    Calls Try.prog 80 #[.agg #[v], .int .i64 (s : Int)] w fun e w' => e = .returned (.int .i64 0) ∧ Below w.heap.size w w' := by
  obtain ⟨A, c, rfl⟩ := h.slice
  have hb1 : Below w.heap.size w (w.alloc (.cells #[.slice A ms.length c] 27)) := balloc (bref w) _
  have k0 : (w.alloc (.cells #[.slice A ms.length c] 27)).heap[w.heap.size]? = some (.cells #[.slice A ms.length c] 27 (0, 0)) := alloc_at rfl
  have hp2 : 2 ^ ms.length ≤ 2 ^ 10 := Nat.pow_le_pow_right (by omega) hl
  have hs10 : s < 1024 := by omega
  have HMR := Lib.hid (fun W => rdmembers_run A ms.length c hl W)
  obtain ⟨M, hM⟩ : ∃ M, 2 ^ ms.length - 1 = M := ⟨_, rfl⟩
  have hsM : ¬ (M : Int) < (s : Int) := by omega
  rw [hM] at HMR
  clear hM
  have hs0 : ¬ (s : Int) < 0 := by omega
  have H := Lib.hid (h.below hb1)
  have HB := Lib.hid hb1
  have K0 := Lib.hid k0
  have HOK := Lib.hid hok
  have HS := Lib.hid hs
  clear h hb1 k0 hp2 hs hok
  go_enter Try.func80, Try.ntmps80
  go_upto_region 1 with fail
  generalize w.alloc (.cells #[.slice A ms.length c] 27) = W1 at *
  generalize hg : w.heap.size = g at *
  have HG := Lib.hid hg
  clear hg
  have c0 : W1.cell? ⟨g, 0, none⟩ = some (.slice A ms.length c) := cell_of_row _ _ 0 _ _ (0, 0) K0.out
  have HBw := Lib.hid (show Below w.heap.size w W1 by rw [HG.out]; exact HB.out)
  go_wp2_with fail
  refine (HMR.out _).mono ?_
  rintro e W2x ⟨rfl, hbx⟩
  have c1 := (hbx.cell (cell_lt c0)).trans c0
  have HB1 := Lib.hid (bstep HBw.out hbx)
  have H1 := Lib.hid (H.out.below hbx)
  clear hbx c0
  go_wp2_with fail
  go_ret
  exact ⟨rfl, HB1.out⟩

set_option maxRecDepth 100000 in
set_option maxHeartbeats 2000000 in
theorem rdints_run (P : Nat → Prop) (ms : List Mem) (v : Value) (s : Nat) (w : World) (hl : ms.length ≤ 10) (hs : s < 2 ^ ms.length) (h : MemsAt P 3 w v ms) (hok : D3.MemsOk ms.length ms) :
    Calls Try.prog 66 #[.agg #[v], .int .i64 (s : Int)] w fun e w' => (∃ x : Bool, e = .returned (.tuple #[.bool x, .int .i64 0]) ∧ (x = true ↔ InT (D3.delM s ms))) ∧ Below w.heap.size w w' := by
  obtain ⟨A, c, rfl⟩ := h.slice
  have hb1 : Below w.heap.size w (w.alloc (.cells #[.slice A ms.length c] 27)) := balloc (bref w) _
  have k0 : (w.alloc (.cells #[.slice A ms.length c] 27)).heap[w.heap.size]? = some (.cells #[.slice A ms.length c] 27 (0, 0)) := alloc_at rfl
  have hp2 : 2 ^ ms.length ≤ 2 ^ 10 := Nat.pow_le_pow_right (by omega) hl
  have hs10 : s < 1024 := by omega
  have H := Lib.hid (h.below hb1)
  have HB := Lib.hid hb1
  have K0 := Lib.hid k0
  have HOK := Lib.hid hok
  have HS := Lib.hid hs
  clear h hb1 k0 hp2 hs hok
  go_enter Try.func66, Try.ntmps66
  go_upto_region 1 with fail
  generalize w.alloc (.cells #[.slice A ms.length c] 27) = W1 at *
  generalize hg : w.heap.size = g at *
  have HG := Lib.hid hg
  clear hg
  have c0 : W1.cell? ⟨g, 0, none⟩ = some (.slice A ms.length c) := cell_of_row _ _ 0 _ _ (0, 0) K0.out
  have HBw := Lib.hid (show Below w.heap.size w W1 by rw [HG.out]; exact HB.out)
  go_wp2_with fail
  refine (D3.rcvalid_run P ms _ _ hl H.out HOK.out).mono ?_
  rintro e W2x ⟨rfl, hbx⟩
  have c1 := (hbx.cell (cell_lt c0)).trans c0
  have HB1 := Lib.hid (bstep HBw.out hbx)
  have H1 := Lib.hid (H.out.below hbx)
  clear hbx c0
  go_wp2_with fail
  refine (rdset_run P ms _ s _ hl HS.out H1.out HOK.out).mono ?_
  rintro e W3x ⟨rfl, hbx⟩
  have c2 := (hbx.cell (cell_lt c1)).trans c1
  have HB2 := Lib.hid (bstep HB1.out hbx)
  have H2 := Lib.hid (H1.out.below hbx)
  clear hbx c1
  go_wp2_with fail
  refine (D3.rdelete_run P ms _ s _ hl hs10 H2.out HOK.out).mono ?_
  rintro e Wd ⟨vd, rfl, hmd, hbd⟩
  have HMD := Lib.hid hmd
  have HBD := Lib.hid (bstep HB2.out hbd)
  clear hbd hmd c2
  go_wp2_with fail
  refine (D3.rholds_run _ (D3.delM s ms) _ _ (by rw [D3.delM_len]; exact hl) HMD.out (D3.delM_ok HOK.out)).mono ?_
  rintro e We ⟨⟨x, rfl, hx⟩, hbe⟩
  have HX := Lib.hid (show x = true ↔ InT (D3.delM s ms) from hx)
  have HBE := Lib.hid (bstep HBD.out hbe)
  clear hbe hx
  go_wp2_with fail
  go_ret2
  exact ⟨⟨x, rfl, HX.out⟩, HBE.out⟩

set_option maxRecDepth 100000 in
set_option maxHeartbeats 2000000 in
theorem rdavail_run (P : Nat → Prop) (ms : List Mem) (v : Value) (s : Nat) (w : World) (hl : ms.length ≤ 10) (hs : s < 2 ^ ms.length) (h : MemsAt P 3 w v ms) (hok : D3.MemsOk ms.length ms) :
    Calls Try.prog 99 #[.agg #[v], .int .i64 (s : Int)] w fun e w' => (∃ x : Bool, e = .returned (.tuple #[.bool x, .int .i64 0]) ∧ (x = true ↔ AvT ms s)) ∧ Below w.heap.size w w' := by
  obtain ⟨A, c, rfl⟩ := h.slice
  have hb1 : Below w.heap.size w (w.alloc (.cells #[.slice A ms.length c] 27)) := balloc (bref w) _
  have k0 : (w.alloc (.cells #[.slice A ms.length c] 27)).heap[w.heap.size]? = some (.cells #[.slice A ms.length c] 27 (0, 0)) := alloc_at rfl
  have hp2 : 2 ^ ms.length ≤ 2 ^ 10 := Nat.pow_le_pow_right (by omega) hl
  have hs10 : s < 1024 := by omega
  have HMR := Lib.hid (fun W => rdmembers_run A ms.length c hl W)
  have hO := outS_sub ms.length s hl (by omega)
  obtain ⟨M, hM⟩ : ∃ M, 2 ^ ms.length - 1 = M := ⟨_, rfl⟩
  rw [hM] at hO HMR
  clear hM
  have HR := Lib.hid (outS_lt ms.length s hl)
  have HAV := Lib.hid (show AvT ms s ↔ (outS ms.length s = 0 ∨ IsQ 3 ms (outS ms.length s)) from Iff.rfl)
  generalize outS ms.length s = r at hO HR HAV
  have H := Lib.hid (h.below hb1)
  have HB := Lib.hid hb1
  have K0 := Lib.hid k0
  have HOK := Lib.hid hok
  have HS := Lib.hid hs
  clear h hb1 k0 hp2 hs hok
  go_enter Try.func99, Try.ntmps99
  go_upto_region 1 with fail
  generalize w.alloc (.cells #[.slice A ms.length c] 27) = W1 at *
  generalize hg : w.heap.size = g at *
  have HG := Lib.hid hg
  clear hg
  have c0 : W1.cell? ⟨g, 0, none⟩ = some (.slice A ms.length c) := cell_of_row _ _ 0 _ _ (0, 0) K0.out
  have HBw := Lib.hid (show Below w.heap.size w W1 by rw [HG.out]; exact HB.out)
  go_wp2_with fail
  refine (D3.rcvalid_run P ms _ _ hl H.out HOK.out).mono ?_
  rintro e W2x ⟨rfl, hbx⟩
  have c1 := (hbx.cell (cell_lt c0)).trans c0
  have HB1 := Lib.hid (bstep HBw.out hbx)
  have H1 := Lib.hid (H.out.below hbx)
  clear hbx c0
  go_wp2_with fail
  refine (rdset_run P ms _ s _ hl HS.out H1.out HOK.out).mono ?_
  rintro e W3x ⟨rfl, hbx⟩
  have c2 := (hbx.cell (cell_lt c1)).trans c1
  have HB2 := Lib.hid (bstep HB1.out hbx)
  have H2 := Lib.hid (H1.out.below hbx)
  clear hbx c1
  go_wp2_with fail
  refine (HMR.out _).mono ?_
  rintro e W4x ⟨rfl, hbx⟩
  have c3 := (hbx.cell (cell_lt c2)).trans c2
  have HB3 := Lib.hid (bstep HB2.out hbx)
  have H3 := Lib.hid (H2.out.below hbx)
  clear hbx c2
  by_cases hr0 : r = 0
  · subst hr0
    go_wp2_with fail
    go_ret2
    exact ⟨⟨true, rfl, iff_of_true rfl (HAV.out.2 (.inl (by first | rfl | trivial)))⟩, HB3.out⟩
  · have hr0i : ¬ (r : Int) = 0 := by omega
    go_wp2_with fail
    refine (rquorum_run P 3 ms _ r _ hl HR.out H3.out).mono ?_
    rintro e Wq ⟨b, rfl, hq, hbq⟩
    have HQ := Lib.hid hq
    have HBQ := Lib.hid (bstep HB3.out hbq)
    clear hbq hq
    go_wp2_with fail
    go_ret2
    exact ⟨⟨((r : Int) == 0 || b), rfl, (show ((r : Int) == 0 || b) = true ↔ b = true by rw [show ((r : Int) == 0) = false by simpa using hr0]; simp).trans <| HQ.out.trans (Iff.trans ⟨fun h => Or.inr h, fun h => h.resolve_left hr0⟩ HAV.out.symm)⟩, HBQ.out⟩

set_option maxRecDepth 100000 in
set_option maxHeartbeats 8000000 in
theorem rdvalid_run (P Q : Nat → Prop) (ls hs : List Mem) (vl vh : Value) (w : World) (hl : ls.length ≤ 7) (h1 : MemsAt P 3 w vl ls) (h2 : MemsAt Q 3 w vh hs) (hp : PairM ls hs) :
    Calls Try.prog 79 #[.agg #[vl], .agg #[vh]] w fun e w' => e = .returned (.int .i64 0) ∧ Below w.heap.size w w' := by
  obtain ⟨A, c, rfl⟩ := h1.slice
  obtain ⟨B, d, rfl⟩ := h2.slice
  have hlen := hp.len
  have hokl := hp.okl
  have hokh := hp.okh
  have hdec := hp.decl
  have HDL := Lib.hid (fun W (h : MemsAt P 3 W (.slice A ls.length c) ls) => rdeclared_run P 3 ls _ W (by omega) h)
  have HDH := Lib.hid (fun W (h : MemsAt Q 3 W (.slice B hs.length d) hs) => rdeclared_run Q 3 hs _ W (by omega) h)
  rw [hdec] at HDH
  rw [hlen] at h2 HDH hokh ⊢
  obtain ⟨n, hn⟩ : ∃ n, ls.length = n := ⟨_, rfl⟩
  have HN := Lib.hid hn
  have HNH := Lib.hid hlen
  rw [hn] at HNH
  have HD := Lib.hid (fun k (h : (declS ls ls.length).testBit k = true) => declS_bit h)
  have HDM := Lib.hid (fun k (h : (declS ls ls.length).testBit k = true) => declS_memD h)
  have hDl : declS ls ls.length < 1024 := declS_lt ls _ (by omega)
  generalize declS ls ls.length = D at HDL HDH hDl HD HDM
  rw [hn] at h1 h2 HDL HDH hokl hokh hl HD ⊢
  have HP := Lib.hid hp
  have HOL := Lib.hid hokl
  have HOH := Lib.hid hokh
  have HPA := Lib.hid (PA.new h1 h2)
  clear h1 h2 hp hokl hokh hn hdec hlen
  go_enter Try.func79, Try.ntmps79
  go_upto_region 1 with fail
  generalize ((w.alloc (.cells #[.slice A n c] 27)).alloc (.cells #[.slice B n d] 27)) = W1 at *
  generalize w.heap.size = g at HPA ⊢
  have l0 := HPA.out.cs.1
  have h0 := HPA.out.cs.2.1
  go_wp2_with fail
  refine (D3.rcvalid_run P ls _ _ (by rw [HN.out]; omega) HPA.out.ml (by rw [HN.out]; exact HOL.out)).mono ?_
  rintro e W1x ⟨rfl, hbx⟩
  have HPA1 := Lib.hid (HPA.out.to hbx)
  clear hbx l0 h0
  have l1 := HPA1.out.cs.1
  have h1 := HPA1.out.cs.2.1
  go_wp2_with fail
  refine (D3.rcvalid_run Q hs _ _ (by rw [HNH.out]; omega) HPA1.out.mh (by rw [HNH.out]; exact HOH.out)).mono ?_
  rintro e W2x ⟨rfl, hbx⟩
  have HPA2 := Lib.hid (HPA1.out.to hbx)
  clear hbx l1 h1
  have l2 := HPA2.out.cs.1
  have h2 := HPA2.out.cs.2.1
  go_upto_region 7 with fail
  have hS := Lib.hid (HPA2.out.to (bdrew (bref W2x))).cs
  go_region_held3 (fun W => W.cell? ⟨g, 0, none⟩ = some (.slice A n c) ∧ W.cell? ⟨g + 1, 0, none⟩ = some (.slice B n d) ∧ PA P Q w g (.slice A n c) (.slice B n d) ls hs W) (first | exact hS.out | exact hSK | exact paKeep (by assumption) hbK | go_keep)
    (first
      | (go_at_call_of 43 (Value.agg #[.slice A n c]); refine (HDL.out _ (by exact (paSelf (by assumption)).ml)).mono ?_; rintro e WK ⟨rfl, hbK⟩; have hSK := paKeep (by assumption) hbK)
      | (go_at_call_of 43 (Value.agg #[.slice B n d]); refine (HDH.out _ (by exact (paSelf (by assumption)).mh)).mono ?_; rintro e WK ⟨rfl, hbK⟩; have hSK := paKeep (by assumption) hbK))
  all_goals
    have hpa := paSelf (vl := .slice A n c) (vh := .slice B n d) (by assumption)
    have HPA4 := Lib.hid hpa
    have l0 := hpa.cs.1
    have hN7 : 2 ^ n ≤ 2 ^ 7 := Nat.pow_le_pow_right (by decide) hl
    have HMR := Lib.hid (fun W => rdmembers_run A n c (by omega) W)
    have hp1 : 1 ≤ 2 ^ n := Nat.one_le_two_pow
    obtain ⟨M, hM⟩ : ∃ M, 2 ^ n - 1 = M := ⟨_, rfl⟩
    have hM2 : M < 128 := by omega
    rw [hM] at HMR
    clear hpa hS hM hp1 hN7
    go_wp2_with fail
    go_loopw [40] (fun t W => ∃ k : Nat, k ≤ n ∧ t = .int .i64 (k : Int) ∧ Hid (PA P Q w g (.slice A n c) (.slice B n d) ls hs W)) (fun t _ => n - (intOf t).toNat)
    case atStart => exact ⟨0, Nat.zero_le _, rfl, HPA4⟩
    case round =>
      obtain ⟨k, hk, rfl, hPr⟩ := hrel
      clear l0
      by_cases hlt : k < n
      · have hpa := hPr.out
        obtain ⟨lm, hlm⟩ : ∃ x, ls[k]? = some x := ⟨_, List.getElem?_eq_getElem (by rw [HN.out]; exact hlt)⟩
        obtain ⟨hm2, hhm⟩ : ∃ x, hs[k]? = some x := ⟨_, List.getElem?_eq_getElem (by rw [HNH.out]; exact hlt)⟩
        obtain ⟨A', c', hA', hL⟩ := hpa.ml
        injection hA' with r1 r2 r3
        subst r1
        obtain ⟨b, off, u0, u1, u2, rfl, _, f0, f1, f2, f3, hT⟩ := hL k lm hlm
        obtain ⟨B', d', hB', hH⟩ := hpa.mh
        injection hB' with s1 s2 s3
        subst s1
        obtain ⟨b', off', v0, v1, v2, rfl, _, _, k1, k2, k3, hU⟩ := hH k hm2 hhm
        obtain ⟨t0, a1, n1, x1, a2, n2, x2, rfl, rfl, rfl⟩ := hT.form
        obtain ⟨t', b1, m1, z1, b2, m2, z2, rfl, rfl, rfl⟩ := hU.form
        have l0 := hpa.cs.1
        have HST := Lib.hid (show SV P Q w g b off b' off' k n c d t0 t' (.slice a1 n1 x1) (.slice a2 n2 x2) (.slice b1 m1 z1) (.slice b2 m2 z2) lm.2 hm2.2 ls hs wr from ⟨hpa.cs.1, hpa.cs.2.1, f1, f2, f3, k1, k2, k3, hpa, hT, hU⟩)
        have HIMP := Lib.hid (fun (hd : lm.1 = true) => HP.out.sat hlm hhm hd)
        obtain ⟨dc, T⟩ := lm
        clear hL hH hT hU f1 f2 f3 k1 k2 k3 r2 r3 s2 s3 hlm hhm
        cases dc
        · go_wp2_with fail
          go_roundw
          case rel => exact ⟨k + 1, hlt, by go_num, hPr⟩
          case measure => simp [intOf]; omega
        · obtain ⟨wo, hwo⟩ : ∃ wo : World, wo = wr := ⟨_, rfl⟩
          go_wp2_with fail
          subst hwo
          clear f0 l0
          go_loopw [8] (fun t W => ∃ j : Nat, j ≤ M + 1 ∧ t = .int .i64 (j : Int) ∧ Hid (SV P Q w g b off b' off' k n c d t0 t' (.slice a1 n1 x1) (.slice a2 n2 x2) (.slice b1 m1 z1) (.slice b2 m2 z2) T hm2.2 ls hs W)) (fun t _ => M + 1 - (intOf t).toNat)
          case atStart => exact ⟨0, by omega, rfl, HST⟩
          case round =>
            obtain ⟨j, hj, rfl, hSV⟩ := hrel
            have l1 := hSV.out.1
            go_wp2_with fail
            refine (HMR.out _).mono ?_
            rintro e W8 ⟨rfl, hb8⟩
            have HS8 := Lib.hid (SV.keep hSV.out hb8)
            clear hb8 l1
            by_cases hlt2 : j ≤ M
            · have hlti : (j : Int) ≤ (M : Int) := by omega
              obtain ⟨l1, l2, f1, f2, f3, k1, k2, k3, hq⟩ := HS8.out
              have HQ8 := Lib.hid hq
              clear hq
              go_wp2_with fail
              refine (rsat_run Q 3 hm2.2 _ _ _ j _ (by omega) HQ8.out.2.2).mono ?_
              rintro e W9 ⟨rfl, hb9⟩
              have HS9 := Lib.hid (SV.keep HS8.out hb9)
              obtain ⟨sb, hsb⟩ : ∃ sb, satB 3 hm2.2 ((j : Nat) : Int) = sb := ⟨_, rfl⟩
              have HSB := Lib.hid hsb
              rw [hsb]
              clear hb9 hsb l1 l2 f1 f2 f3 k1 k2 k3
              cases sb
              · go_wp2_with fail
                go_roundw
                case rel => exact ⟨j + 1, by omega, by go_num, HS9⟩
                case measure => simp [intOf]; omega
              · obtain ⟨l1, l2, f1, f2, f3, k1, k2, k3, hq⟩ := HS9.out
                have HQ9 := Lib.hid hq
                clear hq
                go_wp2_with fail
                refine (rsat_run P 3 T _ _ _ j _ (by omega) HQ9.out.2.1).mono ?_
                rintro e W10 ⟨rfl, hb10⟩
                rw [HIMP.out (by first | rfl | trivial) j (by omega) HSB.out]
                have HS10 := Lib.hid (SV.keep HS9.out hb10)
                clear hb10 l1 l2 f1 f2 f3 k1 k2 k3
                go_wp2_with fail
                go_roundw
                case rel => exact ⟨j + 1, by omega, by go_num, HS10⟩
                case measure => simp [intOf]; omega
            · have hlti : ¬ (j : Int) ≤ (M : Int) := by omega
              have HPZ := Lib.hid (svL HS8.out).1
              go_wp2_with fail
              go_roundw
              case rel => exact ⟨k + 1, hlt, by go_num, HPZ⟩
              case measure => simp [intOf]; omega
      · obtain rfl : k = n := by omega
        have HBF := Lib.hid hPr.out.bel
        go_wp2_with fail
        go_ret
        exact ⟨rfl, HBF.out⟩

set_option maxRecDepth 100000 in
set_option maxHeartbeats 4000000 in
theorem rdbegin_run (P Q : Nat → Prop) (ls hs : List Mem) (vl vh : Value) (s : Nat) (hsx : s < 2 ^ ls.length) (w : World) (hl : ls.length ≤ 7) (h1 : MemsAt P 3 w vl ls) (h2 : MemsAt Q 3 w vh hs) (hp : PairM ls hs) :
    Calls Try.prog 83 #[.agg #[vl], .agg #[vh], .int .i64 (s : Int)] w fun e w' => e = .returned (.int .i64 0) ∧ Below w.heap.size w w' := by
  have HS := Lib.hid hsx
  clear hsx
  obtain ⟨A, c, rfl⟩ := h1.slice
  obtain ⟨B, d, rfl⟩ := h2.slice
  have hlen := hp.len
  have hokl := hp.okl
  have hokh := hp.okh
  have hdec := hp.decl
  have HDL := Lib.hid (fun W (h : MemsAt P 3 W (.slice A ls.length c) ls) => rdeclared_run P 3 ls _ W (by omega) h)
  have HDH := Lib.hid (fun W (h : MemsAt Q 3 W (.slice B hs.length d) hs) => rdeclared_run Q 3 hs _ W (by omega) h)
  rw [hdec] at HDH
  rw [hlen] at h2 HDH hokh ⊢
  obtain ⟨n, hn⟩ : ∃ n, ls.length = n := ⟨_, rfl⟩
  have HN := Lib.hid hn
  have HNH := Lib.hid hlen
  rw [hn] at HNH
  have HD := Lib.hid (fun k (h : (declS ls ls.length).testBit k = true) => declS_bit h)
  have HDM := Lib.hid (fun k (h : (declS ls ls.length).testBit k = true) => declS_memD h)
  have hDl : declS ls ls.length < 1024 := declS_lt ls _ (by omega)
  generalize declS ls ls.length = D at HDL HDH hDl HD HDM
  rw [hn] at h1 h2 HDL HDH hokl hokh hl HD ⊢
  have HP := Lib.hid hp
  have HOL := Lib.hid hokl
  have HOH := Lib.hid hokh
  have HPA := Lib.hid (PA.new h1 h2)
  clear h1 h2 hp hokl hokh hn hdec hlen
  go_enter Try.func83, Try.ntmps83
  go_upto_region 1 with fail
  generalize ((w.alloc (.cells #[.slice A n c] 27)).alloc (.cells #[.slice B n d] 27)) = W1 at *
  generalize w.heap.size = g at HPA ⊢
  have l0 := HPA.out.cs.1
  have h0 := HPA.out.cs.2.1
  go_wp2_with fail
  refine (rdvalid_run P Q ls hs _ _ _ (by rw [HN.out]; exact hl) HPA.out.ml HPA.out.mh HP.out).mono ?_
  rintro e W1x ⟨rfl, hbx⟩
  have HPA1 := Lib.hid (HPA.out.to hbx)
  clear hbx l0 h0
  have l1 := HPA1.out.cs.1
  have h1 := HPA1.out.cs.2.1
  go_wp2_with fail
  refine (rdset_run P ls _ s _ (by rw [HN.out]; omega) HS.out HPA1.out.ml (by rw [HN.out]; exact HOL.out)).mono ?_
  rintro e W2x ⟨rfl, hbx⟩
  have HPA2 := Lib.hid (HPA1.out.to hbx)
  clear hbx l1 h1
  have l2 := HPA2.out.cs.1
  have h2 := HPA2.out.cs.2.1
  go_wp2_with fail
  go_ret
  exact ⟨rfl, HPA2.out.bel⟩

set_option maxRecDepth 100000 in
set_option maxHeartbeats 4000000 in
theorem rdis_run (P Q : Nat → Prop) (ls hs : List Mem) (vl vh : Value) (s : Nat) (hsx : s < 2 ^ ls.length) (w : World) (hl : ls.length ≤ 7) (h1 : MemsAt P 3 w vl ls) (h2 : MemsAt Q 3 w vh hs) (hp : PairM ls hs) :
    Calls Try.prog 86 #[.agg #[vl], .agg #[vh], .int .i64 (s : Int)] w fun e w' => (∃ x : Bool, e = .returned (.bool x) ∧ (x = true ↔ AvT hs s ∧ InT (D3.delM s ls))) ∧ Below w.heap.size w w' := by
  have HS := Lib.hid hsx
  clear hsx
  obtain ⟨A, c, rfl⟩ := h1.slice
  obtain ⟨B, d, rfl⟩ := h2.slice
  have hlen := hp.len
  have hokl := hp.okl
  have hokh := hp.okh
  have hdec := hp.decl
  have HDL := Lib.hid (fun W (h : MemsAt P 3 W (.slice A ls.length c) ls) => rdeclared_run P 3 ls _ W (by omega) h)
  have HDH := Lib.hid (fun W (h : MemsAt Q 3 W (.slice B hs.length d) hs) => rdeclared_run Q 3 hs _ W (by omega) h)
  rw [hdec] at HDH
  rw [hlen] at h2 HDH hokh ⊢
  obtain ⟨n, hn⟩ : ∃ n, ls.length = n := ⟨_, rfl⟩
  have HN := Lib.hid hn
  have HNH := Lib.hid hlen
  rw [hn] at HNH
  have HD := Lib.hid (fun k (h : (declS ls ls.length).testBit k = true) => declS_bit h)
  have HDM := Lib.hid (fun k (h : (declS ls ls.length).testBit k = true) => declS_memD h)
  have hDl : declS ls ls.length < 1024 := declS_lt ls _ (by omega)
  generalize declS ls ls.length = D at HDL HDH hDl HD HDM
  rw [hn] at h1 h2 HDL HDH hokl hokh hl HD ⊢
  have HP := Lib.hid hp
  have HOL := Lib.hid hokl
  have HOH := Lib.hid hokh
  have HPA := Lib.hid (PA.new h1 h2)
  clear h1 h2 hp hokl hokh hn hdec hlen
  go_enter Try.func86, Try.ntmps86
  go_upto_region 1 with fail
  generalize ((w.alloc (.cells #[.slice A n c] 27)).alloc (.cells #[.slice B n d] 27)) = W1 at *
  generalize w.heap.size = g at HPA ⊢
  have l0 := HPA.out.cs.1
  have h0 := HPA.out.cs.2.1
  go_wp2_with fail
  refine (rdavail_run Q hs _ s _ (by rw [HNH.out]; omega) (by rw [HP.out.len]; exact HS.out) HPA.out.mh (by rw [HNH.out]; exact HOH.out)).mono ?_
  rintro e W1x ⟨⟨x, rfl, hx⟩, hbx⟩
  have HPA1 := Lib.hid (HPA.out.to hbx)
  clear hbx l0 h0
  have l1 := HPA1.out.cs.1
  have h1 := HPA1.out.cs.2.1
  have HX := Lib.hid hx
  clear hx
  cases x
  · go_wp2_with fail
    go_ret
    exact ⟨⟨false, rfl, iff_of_false (by simp) (fun h => by have := HX.out.2 h.1; cases this)⟩, HPA1.out.bel⟩
  · go_wp2_with fail
    refine (rdints_run P ls _ s _ (by rw [HN.out]; omega) HS.out HPA1.out.ml (by rw [HN.out]; exact HOL.out)).mono ?_
    rintro e W2x ⟨⟨y, rfl, hy⟩, hbx⟩
    have HPA2 := Lib.hid (HPA1.out.to hbx)
    clear hbx l1 h1
    have l2 := HPA2.out.cs.1
    have h2 := HPA2.out.cs.2.1
    have HY := Lib.hid hy
    clear hy
    go_wp2_with fail
    go_ret
    exact ⟨⟨y, rfl, HY.out.trans ⟨fun h => ⟨HX.out.1 (by first | rfl | trivial), h⟩, fun h => h.2⟩⟩, HPA2.out.bel⟩

end Go.Proofs.Ytnfdacfhhkahhaa

namespace Go.Proofs.Ytnfdacfhhkahhaa
set_option linter.unusedVariables false
set_option linter.unusedSimpArgs false
open Go.RowKit

def AllOfI (s : Nat) (ls hs : List Mem) (l : List Int) (k : Nat) (L : List Nat) : Prop := L.length ≤ k ∧ ∀ b : Nat, b ∈ L ↔ (b : Int) ∈ l.take k ∧ GoodB s ls hs b

theorem AllOfI.zero (s : Nat) (ls hs : List Mem) (l : List Int) : AllOfI s ls hs l 0 [] := ⟨by simp, fun b => by simp⟩

theorem AllOfI.skip {s : Nat} {ls hs : List Mem} {l : List Int} {L : List Nat} {k b : Nat} (h : AllOfI s ls hs l k L) (hb : l[k]? = some (b : Int)) (hn : ¬ GoodB s ls hs b) : AllOfI s ls hs l (k + 1) L := by
  unfold AllOfI
  rw [List.take_add_one, hb]
  refine ⟨Nat.le_succ_of_le h.1, fun x => ?_⟩
  rw [h.2 x, List.mem_append]
  constructor
  · rintro ⟨h1, h2⟩; exact ⟨.inl h1, h2⟩
  · rintro ⟨h1 | h1, h2⟩
    · exact ⟨h1, h2⟩
    · have : (x : Int) = (b : Int) := by simpa using h1
      rw [Int.ofNat.inj this] at h2; exact absurd h2 hn

theorem AllOfI.add {s : Nat} {ls hs : List Mem} {l : List Int} {L : List Nat} {k b : Nat} (h : AllOfI s ls hs l k L) (hb : l[k]? = some (b : Int)) (hn : GoodB s ls hs b) : AllOfI s ls hs l (k + 1) (L ++ [b]) := by
  unfold AllOfI
  rw [List.take_add_one, hb]
  refine ⟨by simp; exact h.1, fun x => ?_⟩
  rw [List.mem_append, h.2 x, List.mem_append]
  constructor
  · rintro (⟨h1, h2⟩ | h1)
    · exact ⟨.inl h1, h2⟩
    · have : x = b := by simpa using h1
      rw [this]; exact ⟨.inr (by simp), hn⟩
  · rintro ⟨h1 | h1, h2⟩
    · exact .inl ⟨h1, h2⟩
    · have : (x : Int) = (b : Int) := by simpa using h1
      rw [Int.ofNat.inj this]; exact .inr (by simp)

def RAllIs (s : Nat) (ls hs : List Mem) (L : List Nat) : Prop := L.length ≤ 20000 ∧ ∀ b, b ∈ L ↔ b < 2 ^ ls.length ∧ GoodB s ls hs b

theorem ones_sub {n b : Nat} : Sub b (2 ^ n - 1) ↔ b < 2 ^ n := by
  constructor
  · intro h
    refine Nat.lt_pow_two_of_testBit _ (fun k hk => ?_)
    cases hb : b.testBit k
    · rfl
    · have h5 := h k hb
      rw [Nat.testBit_two_pow_sub_one, decide_eq_true_iff] at h5
      omega
  · intro h k hk
    rw [Nat.testBit_two_pow_sub_one, decide_eq_true (lt_bit h hk)]

set_option maxRecDepth 100000 in
set_option maxHeartbeats 4000000 in
theorem rdall_run (P Q : Nat → Prop) (ls hs : List Mem) (vl vh : Value) (s : Nat) (hsx : s < 2 ^ ls.length) (w : World) (hl : ls.length ≤ 7) (h1 : MemsAt P 3 w vl ls) (h2 : MemsAt Q 3 w vh hs) (hp : PairM ls hs) :
    Calls Try.prog 67 #[.agg #[vl], .agg #[vh], .int .i64 (s : Int)] w fun e w' => (∃ (v : Value) (L : List Nat), e = .returned (.tuple #[v, .int .i64 0]) ∧ NodesAt (fun b => w.heap.size ≤ b) w' v (zs L) ∧ RAllIs s ls hs L) ∧ Below w.heap.size w w' := by
  have HS := Lib.hid hsx
  clear hsx
  obtain ⟨A, c, rfl⟩ := h1.slice
  obtain ⟨B, d, rfl⟩ := h2.slice
  have hlen := hp.len
  have hokl := hp.okl
  have hokh := hp.okh
  have hdec := hp.decl
  have HDL := Lib.hid (fun W (h : MemsAt P 3 W (.slice A ls.length c) ls) => declared_run P 3 ls _ W (by omega) h)
  have HDH := Lib.hid (fun W (h : MemsAt Q 3 W (.slice B hs.length d) hs) => declared_run Q 3 hs _ W (by omega) h)
  rw [hdec] at HDH
  rw [hlen] at h2 HDH hokh ⊢
  obtain ⟨n, hn⟩ : ∃ n, ls.length = n := ⟨_, rfl⟩
  have HN := Lib.hid hn
  have HNH := Lib.hid hlen
  rw [hn] at HNH
  have HD := Lib.hid (fun k (h : (declS ls ls.length).testBit k = true) => declS_bit h)
  have HDM := Lib.hid (fun k (h : (declS ls ls.length).testBit k = true) => declS_memD h)
  have hDl : declS ls ls.length < 1024 := declS_lt ls _ (by omega)
  generalize declS ls ls.length = D at HDL HDH hDl HD HDM
  rw [hn] at h1 h2 HDL HDH hokl hokh hl HD ⊢
  have HP := Lib.hid hp
  have HOL := Lib.hid hokl
  have HOH := Lib.hid hokh
  have HPA := Lib.hid (PA.new h1 h2)
  clear h1 h2 hp hokl hokh hn hdec hlen
  go_enter Try.func67, Try.ntmps67
  go_upto_region 1 with fail
  generalize ((w.alloc (.cells #[.slice A n c] 27)).alloc (.cells #[.slice B n d] 27)) = W1 at *
  generalize w.heap.size = g at HPA ⊢
  have l0 := HPA.out.cs.1
  have h0 := HPA.out.cs.2.1
  go_wp2_with fail
  refine (rdbegin_run P Q ls hs _ _ s HS.out _ (by rw [HN.out]; exact hl) HPA.out.ml HPA.out.mh HP.out).mono ?_
  rintro e W1x ⟨rfl, hbx⟩
  have HPA1 := Lib.hid (HPA.out.to hbx)
  clear hbx l0 h0
  have l1 := HPA1.out.cs.1
  have h1 := HPA1.out.cs.2.1
  go_wp2_with fail
  refine (rdmembers_run A n c (by omega) _).mono ?_
  rintro e W2x ⟨rfl, hbx⟩
  have HPA2 := Lib.hid (HPA1.out.to hbx)
  clear hbx l1 h1
  have l2 := HPA2.out.cs.1
  have h2 := HPA2.out.cs.2.1
  have hp10 : 2 ^ n ≤ 2 ^ 10 := Nat.pow_le_pow_right (by omega) (by omega)
  have HPM := Lib.hid (fun W => rsubsets_run (2 ^ n - 1) W (by omega))
  have HSN := Lib.hid (show s < 2 ^ n by have h := HS.out; rw [HN.out] at h; exact h)
  have hs10 : s < 1024 := by have := HSN.out; omega
  obtain ⟨M, hM⟩ : ∃ M, 2 ^ n - 1 = M := ⟨_, rfl⟩
  have HM := Lib.hid hM
  rw [hM] at HPM ⊢
  clear hM hp10
  go_wp2_with fail
  refine (HPM.out _).mono ?_
  rintro e W6 ⟨vr, l, rfl, hnv, hlen, hmem, hb6⟩
  have HPA6 := Lib.hid (HPA2.out.to hb6)
  have HMB := Lib.hid (show ∀ b : Nat, (b : Int) ∈ l ↔ b < 2 ^ n from fun b => by
    rw [hmem, ← ones_sub, HM.out]
    constructor
    · rintro ⟨q, e, h⟩
      obtain rfl := Int.ofNat.inj e
      exact h
    · intro h; exact ⟨b, rfl, h⟩)
  have HFB := Lib.hid (show ∀ i, i < l.length → ∃ b : Nat, l[i]? = some (b : Int) ∧ b < 2 ^ n from fun i hi => by
    have e := List.getElem?_eq_getElem hi
    obtain ⟨q, h1, h2⟩ := (hmem _).1 (List.mem_of_getElem? e)
    refine ⟨q, by rw [e, h1], ones_sub.1 (by rw [HM.out]; exact h2)⟩)
  have HF := Lib.hid (show ∀ L, AllOfI s ls hs l l.length L → RAllIs s ls hs L from fun L h => ⟨Nat.le_trans h.1 hlen, fun b => by
    rw [h.2 b, List.take_length, HMB.out b, HN.out]⟩)
  obtain ⟨Nn, cn, rfl⟩ := hnv.slice
  obtain ⟨m, hm⟩ : ∃ m, l.length = m := ⟨_, rfl⟩
  rw [hm] at hnv hlen HF ⊢
  have HNV := Lib.hid hnv
  have HML := Lib.hid hm
  obtain ⟨i0, hin, hz0, hz1, hz2⟩ := info_parts infoInt
  clear hb6 hnv hm hmem l2 h2 HPA2 HPA1 HPA HPM
  go_wp2_with fail
  go_loopw [9, 23] (fun u t W => ∃ (k : Nat) (v : Value) (L : List Nat), k ≤ m ∧ u = v ∧ t = .int .i64 (k : Int) ∧ W.ownsRow W6.heap.size 3 1 v L.length ((zs L).map (Value.int .i64)) ∧ Hid (AllOfI s ls hs l k L) ∧ Hid (Below W6.heap.size W6 W)) (fun _ t _ => m - (intOf t).toNat)
  case atStart => exact ⟨0, _, [], Nat.zero_le _, rfl, rfl, World.ownsRow_nil _ _ _ _, Lib.hid (AllOfI.zero _ _ _ _), Lib.hid (bref _)⟩
  case round =>
    obtain ⟨k, v, L, hk, hv, rfl, hown, hAll, hBe⟩ := hrel
    subst hv
    have hszb := hBe.out.size
    have hLl : L.length ≤ k := by exact hAll.out.1
    by_cases hlt : k < m
    · obtain ⟨An, cn', hAn, hcl⟩ := HNV.out
      injection hAn with q1 q2 q3
      subst q1
      obtain ⟨bn, on, hbn, _, hcn⟩ := hcl k (by rw [HML.out]; exact hlt)
      subst hbn
      obtain ⟨b, hb, hb2⟩ := HFB.out k (by rw [HML.out]; exact hlt)
      rw [show l.getD k 0 = (b : Int) by rw [List.getD_eq_getElem?_getD, hb]; rfl] at hcn
      have hp10 : 2 ^ n ≤ 2 ^ 10 := Nat.pow_le_pow_right (by omega) (by omega)
      have hb10 : b < 1024 := by omega
      have HB2 := Lib.hid (show b < 2 ^ ls.length by rw [HN.out]; exact hb2)
      clear hb2 hp10
      have n0 : wr.cell? ⟨bn, on + k, none⟩ = some (.int .i64 (b : Int)) := (hBe.out.cell (cell_lt hcn)).trans hcn
      have hpa := HPA6.out.to hBe.out
      have l0 := hpa.cs.1
      have h0 := hpa.cs.2.1
      have HPAR := Lib.hid hpa
      have hand := i64_and_nat b s (by omega) (by omega)
      have HZ := Lib.hid (show b &&& s = s ↔ Sub s b from by rw [Nat.and_comm]; exact and_self_sub)
      generalize b &&& s = z at hand HZ
      have HB := Lib.hid hb
      have HOWN := Lib.hid hown
      clear hcl hcn hpa q2 q3 hb
      by_cases hz : z = s
      · have HSU := Lib.hid (HZ.out.1 hz)
        subst hz
        go_wp2_with fail
        refine (rdis_run P Q ls hs _ _ b HB2.out _ (by rw [HN.out]; exact hl) HPAR.out.ml HPAR.out.mh HP.out).mono ?_
        rintro e W7 ⟨⟨x, rfl, hx⟩, hb7⟩
        have HX := Lib.hid hx
        have HB7 := Lib.hid (bstep hBe.out hb7)
        have hown7 := own_keepG HOWN.out (fun j _ _ hl => hb7.block j hl)
        have HOWN7 := Lib.hid hown7
        have hsz7 := HB7.out.size
        clear hx n0 l0 h0 hown
        cases x
        · have HA := Lib.hid (hAll.out.skip HB.out (fun h => by have := HX.out.2 h.2; cases this))
          clear hb7 hown7
          go_wp2_with fail
          go_roundw
          case rel => exact ⟨k + 1, _, L, by omega, rfl, by go_num, HOWN7.out, HA, HB7⟩
          case measure => simp [intOf]; omega
        · have HA := Lib.hid (hAll.out.add HB.out ⟨HSU.out, HX.out.1 (by first | rfl | trivial)⟩)
          clear hb7
          go_wp2_with (at_builtin; refine wpList_append_own _ rfl _ _ 22 rfl W6.heap.size 3 i0 (.int .i64 0) 1 8 Try.underlying22 hin hz0 hz1 hz2 rfl (by decide) _ _ _ rfl (hown7.alloc _) ⟨W7.heap.size, 0, none⟩ 1 1 [.int .i64 (b : Int)] rfl rfl (cell_one_new _ _ _) (fun u hu => by simp at hu; subst hu; rfl) (by unfold maxLen; omega) (by omega) (by simp; omega) ?_; intro v' w1 hown' hgrow hnil)
          have HO := Lib.hid (own_snoc hown')
          have HB4 := Lib.hid (Below.grown (balloc HB7.out (.cells #[.int .i64 (b : Int)] 3)) hgrow (by simp; omega) (fun j hj => (hown7.lt j hj).1))
          clear hown' hgrow hnil hown7
          go_roundw
          case rel => exact ⟨k + 1, _, L ++ [b], by omega, rfl, by go_num, by simpa [zs] using HO.out, HA, HB4⟩
          case measure => simp [intOf]; omega
      · have hzi : ¬ ((z : Nat) : Int) = (s : Int) := by omega
        have HA := Lib.hid (hAll.out.skip HB.out (fun h => hz (HZ.out.2 h.1)))
        clear hown
        go_wp2_with fail
        go_roundw
        case rel => exact ⟨k + 1, _, L, by omega, rfl, by go_num, HOWN.out, HA, hBe⟩
        case measure => simp [intOf]; omega
    · obtain rfl : k = m := by omega
      have HBF := Lib.hid (HPA6.out.to hBe.out).bel
      have HAL := Lib.hid (HF.out L hAll.out)
      have hge : w.heap.size ≤ W6.heap.size := HPA6.out.bel.size
      have HNF := Lib.hid ((NodesAt.of_ownZ hown).both (w' := wr) (Q := fun b => w.heap.size ≤ b) (fun _ _ _ => rfl) (fun q _ hq => by have : W6.heap.size ≤ q := hq; show w.heap.size ≤ q; omega))
      clear hown
      go_wp2_with fail
      go_ret2
      exact ⟨⟨_, L, rfl, HNF.out, HAL.out⟩, HBF.out⟩

end Go.Proofs.Ytnfdacfhhkahhaa

namespace Go.Proofs.Ytnfdacfhhkahhaa
set_option linter.unusedVariables false
set_option linter.unusedSimpArgs false
open Go.RowKit

/-- What satisfies a member. -/
def fOf (ms : List Mem) (k s : Nat) : Bool := satB 3 (trOf ms k) ((s : Nat) : Int)

theorem decl_lt2 (ms : List Mem) : declS ms ms.length < 2 ^ ms.length :=
  Nat.lt_pow_two_of_testBit _ (fun k hk => by
    cases hb : (declS ms ms.length).testBit k
    · rfl
    · have := declS_bit hb
      omega)

theorem fOf_mono (ms : List Mem) (k a b : Nat) (ha : a < 1024) (hb : b < 1024) (h : Sub a b) (h2 : fOf ms k a = true) : fOf ms k b = true := by
  unfold fOf at h2 ⊢
  rw [sat_of ha] at h2
  rw [sat_of hb]
  exact holdsT_monoA (fun x hx => hasB_sub hb h x hx) 3 _ h2

theorem pairF {ls hs : List Mem} (hp : PairM ls hs) (hl : ls.length ≤ 10) : PairF (fOf ls) (fOf hs) (declS ls ls.length) ls.length :=
  ⟨hl, decl_lt2 ls, fOf_mono ls, fOf_mono hs, fun k s hk hs2 h => by
    obtain ⟨l, e1, hd⟩ := declS_memD hk
    obtain ⟨x, e2⟩ : ∃ x, hs[k]? = some x := ⟨_, List.getElem?_eq_getElem (by rw [hp.len]; exact declS_bit hk)⟩
    have := hp.sat e1 e2 hd s hs2
    unfold fOf trOf at h ⊢
    rw [List.getD_eq_getElem?_getD, e2] at h
    rw [List.getD_eq_getElem?_getD, e1]
    exact this h⟩

theorem isq_del {ls : List Mem} {B q : Nat} (hl : ls.length ≤ 10) (hB : B < 1024) (hok : D3.MemsOk ls.length ls) (hq : q < 1024) : IsQ 3 (D3.delM B ls) q ↔ QB (fOf ls) (declS ls ls.length) B q := by
  have hsub : Sub q (declS (D3.delM B ls) (D3.delM B ls).length) ↔ ∀ k, q.testBit k = true → B.testBit k = false ∧ (declS ls ls.length).testBit k = true := by
    rw [D3.decl_del hl hB]
    constructor
    · intro h k hk
      have h3 := h k hk
      rw [minS_bit, Bool.and_eq_true, Bool.not_eq_true'] at h3
      exact ⟨h3.2, h3.1⟩
    · intro h k hk
      have h3 := h k hk
      rw [minS_bit, h3.1, h3.2]; rfl
  have hsat : ∀ k, q.testBit k = true → B.testBit k = false → (declS ls ls.length).testBit k = true → (uns 3 (D3.delM B ls) q k = false ↔ fOf ls k (q ||| B) = true) := fun k hk hb hd => by
    have hkl := declS_bit hd
    obtain ⟨m, hm, hm1⟩ := declS_memD hd
    rw [uns_iff hq (by omega), hk, Bool.true_and, D3.trOf_del hB (by omega) hm hm1 hb, del_means (n := (ls.length : Int)) (by omega) ((hok m (List.mem_of_getElem? hm)).1 hm1) hB hq (or_lt hq hB) (by omega) hk (fun K hK => by rw [Nat.testBit_or, Bool.or_comm])]
    unfold fOf trOf
    rw [List.getD_eq_getElem?_getD, hm]
    show (!satB 3 m.2 _) = false ↔ satB 3 m.2 _ = true
    cases satB 3 m.2 ((q ||| B : Nat) : Int) <;> simp
  unfold IsQ QB Closed
  rw [hsub, D3.delM_len]
  constructor
  · rintro ⟨h1, h2, h3⟩
    exact ⟨h1, hq, fun k hk => ⟨(h2 k hk).1, (h2 k hk).2, (hsat k hk (h2 k hk).1 (h2 k hk).2).1 (h3 k (declS_bit (h2 k hk).2))⟩⟩
  · rintro ⟨h1, _, h3⟩
    refine ⟨h1, fun k hk => ⟨(h3 k hk).1, (h3 k hk).2.1⟩, fun k hk => ?_⟩
    cases hb : q.testBit k
    · rw [uns_iff hq (by omega), hb]; rfl
    · exact (hsat k hb (h3 k hb).1 (h3 k hb).2.1).2 (h3 k hb).2.2

theorem inT_iff {ls : List Mem} {B : Nat} (hl : ls.length ≤ 10) (hB : B < 1024) (hok : D3.MemsOk ls.length ls) : InT (D3.delM B ls) ↔ IntB (fOf ls) (declS ls ls.length) B := by
  have hp := pow_1024 hl
  have hll : (D3.delM B ls).length ≤ 10 := by rw [D3.delM_len]; exact hl
  constructor
  · intro h a b ha hb
    by_cases hx : ∃ k, a.testBit k = true ∧ b.testBit k = true
    · exact hx
    · refine absurd ⟨(isq_del hl hB hok ha.2.1).2 ha, b, hb.2.1, hb.1, fun k hk => ?_, ((isq_del hl hB hok hb.2.1).2 hb).2.2⟩ (h a)
      have h2 := ((isq_del hl hB hok hb.2.1).2 hb).2.1 k hk
      rw [Nat.testBit_and, h2, Bool.and_true, outS_bit, decide_eq_true (declS_bit h2)]
      cases hak : a.testBit k
      · rfl
      · exact absurd ⟨k, hak, hk⟩ hx
  · rintro h t ⟨h1, q, hq, h2, h3, h4⟩
    have ht : t < 1024 := by
      have := apart_lt (d := 3) (ms := D3.delM B ls) hll ⟨h1, q, hq, h2, h3, h4⟩
      rw [D3.delM_len] at this; omega
    have hsub : Sub q (declS (D3.delM B ls) (D3.delM B ls).length) := fun k hk => by have := h3 k hk; rw [Nat.testBit_and, Bool.and_eq_true] at this; exact this.2
    obtain ⟨k, k1, k2⟩ := h t q ((isq_del hl hB hok ht).1 h1) ((isq_del hl hB hok hq).1 ⟨h2, hsub, h4⟩)
    have h5 := h3 k k2
    rw [Nat.testBit_and, Bool.and_eq_true, outS_bit, k1] at h5
    simp at h5

theorem avT_iff {ls hs : List Mem} {B : Nat} (hp : PairM ls hs) (hl : ls.length ≤ 10) : AvT hs B ↔ AvB (fOf hs) (declS ls ls.length) ls.length B := by
  unfold AvT AvB
  rw [hp.len]
  refine or_congr Iff.rfl ?_
  have hO := outS_lt ls.length B hl
  generalize outS ls.length B = q at hO
  unfold IsQ QB Closed
  rw [hp.decl]
  constructor
  · rintro ⟨h1, h2, h3⟩
    refine ⟨h1, hO, fun k hk => ⟨Nat.zero_testBit k, h2 k hk, ?_⟩⟩
    have hkl := declS_bit (h2 k hk)
    have h4 := h3 k (by rw [hp.len]; exact hkl)
    rw [uns_iff hO (by omega), hk, Bool.true_and, Bool.not_eq_false'] at h4
    rw [Nat.or_zero]; exact h4
  · rintro ⟨h1, _, h3⟩
    refine ⟨h1, fun k hk => (h3 k hk).2.1, fun k hk => ?_⟩
    rw [uns_iff hO (by have := hp.len; omega)]
    cases hb : q.testBit k
    · rfl
    · have h4 := (h3 k hb).2.2
      rw [Nat.or_zero] at h4
      unfold fOf at h4
      rw [h4]; rfl

theorem good_iff {ls hs : List Mem} {B : Nat} (hp : PairM ls hs) (hl : ls.length ≤ 10) (hB : B < 1024) : (AvT hs B ∧ InT (D3.delM B ls)) ↔ DispB (fOf ls) (fOf hs) (declS ls ls.length) ls.length B :=
  and_congr (avT_iff hp hl) (inT_iff hl hB hp.okl)

/-- The meet of two sets of All. -/
theorem all_meets {ls hs : List Mem} {ill x y : Nat} {L : List Nat} (hp : PairM ls hs) (hl : ls.length ≤ 10) (hi : ill < 2 ^ ls.length) (h : AllIs ill ls hs L) (hin : InT (D3.delM ill ls)) (hx : x ∈ L) (hy : y ∈ L) : x &&& y ∈ L := by
  have hp2 := pow_1024 hl
  obtain ⟨x1, x2, x3⟩ := (h.2.2 x).1 hx
  obtain ⟨y1, y2, y3⟩ := (h.2.2 y).1 hy
  have hxy : x &&& y < 2 ^ ls.length := and_ltL x1
  refine (h.2.2 _).2 ⟨hxy, fun k hk => by rw [Nat.testBit_and, x2 k hk, y2 k hk]; rfl, ?_⟩
  exact (good_iff hp hl (by omega)).2 (disp_meets (pairF hp hl) x1 y1 hi x2 y2 ((inT_iff hl (by omega) hp.okl).1 hin) ((good_iff hp hl (by omega)).1 x3) ((good_iff hp hl (by omega)).1 y3))

theorem all_full {ls hs : List Mem} {ill : Nat} {L : List Nat} (hp : PairM ls hs) (hl : ls.length ≤ 10) (hi : ill < 2 ^ ls.length) (h : AllIs ill ls hs L) : 2 ^ ls.length - 1 ∈ L := by
  have hp2 := pow_1024 hl
  have h1 : 1 ≤ 2 ^ ls.length := Nat.one_le_two_pow
  refine (h.2.2 _).2 ⟨by omega, fun k hk => by rw [Nat.testBit_two_pow_sub_one, decide_eq_true (lt_bit hi hk)], (good_iff hp hl (by omega)).2 (disp_all (pairF hp hl))⟩

theorem all_undecl {ls hs : List Mem} {ill x : Nat} {L : List Nat} (hp : PairM ls hs) (hl : ls.length ≤ 10) (h : AllIs ill ls hs L) (hx : x ∈ L) : x &&& outS ls.length (declS ls ls.length) = outS ls.length (declS ls ls.length) := by
  have hp2 := pow_1024 hl
  obtain ⟨x1, x2, x3⟩ := (h.2.2 x).1 hx
  have h4 := ((good_iff hp hl (by omega)).1 x3).1
  apply Nat.eq_of_testBit_eq
  intro k
  rw [Nat.testBit_and]
  cases ho : (outS ls.length (declS ls ls.length)).testBit k
  · rw [Bool.and_false]
  · rw [outS_bit, Bool.and_eq_true, Bool.not_eq_true', decide_eq_true_iff] at ho
    have h5 := disp_undecl (f := fOf ls) h4 ho.1 ho.2
    rw [h5]; rfl

end Go.Proofs.Ytnfdacfhhkahhaa

namespace Go.Proofs.Ytnfdacfhhkahhaa
set_option linter.unusedVariables false
set_option linter.unusedSimpArgs false

/-- All dispensable sets that contain ill. -/
def AllL (f g : Nat → Nat → Bool) (D n ill : Nat) (l : List Nat) : Prop := ∀ t, t ∈ l ↔ t < 2 ^ n ∧ Sub ill t ∧ DispB f g D n t

def bfold (n : Nat) (l : List Nat) : Nat := l.foldl (fun a b => a &&& b) (2 ^ n - 1)

theorem fold_bit : ∀ (l : List Nat) (s k : Nat), (l.foldl (fun a b => a &&& b) s).testBit k = true ↔ s.testBit k = true ∧ ∀ x ∈ l, x.testBit k = true
  | [], s, k => by simp
  | x :: l, s, k => by
    rw [List.foldl_cons, fold_bit l, Nat.testBit_and, Bool.and_eq_true]
    simp [and_assoc]

theorem bf_bit {n k : Nat} {l : List Nat} : (bfold n l).testBit k = true ↔ k < n ∧ ∀ x ∈ l, x.testBit k = true := by
  unfold bfold
  rw [fold_bit, Nat.testBit_two_pow_sub_one, decide_eq_true_iff]

theorem bf_lt (n : Nat) (l : List Nat) : bfold n l < 2 ^ n := Nat.lt_pow_two_of_testBit _ (fun k hk => by
  cases h : (bfold n l).testBit k
  · rfl
  · have := (bf_bit.1 h).1; omega)

theorem bf_sub {n x : Nat} {l : List Nat} (h : x ∈ l) : Sub (bfold n l) x := fun k hk => (bf_bit.1 hk).2 x h

theorem bf_mem {f g : Nat → Nat → Bool} {D n ill : Nat} {l : List Nat} (P : PairF f g D n) (hil : ill < 2 ^ n) (hi : IntB f D ill) (h : AllL f g D n ill l) : bfold n l ∈ l := by
  have key : ∀ (m : List Nat) (s : Nat), s ∈ l → (∀ x ∈ m, x ∈ l) → m.foldl (fun a b => a &&& b) s ∈ l := by
    intro m
    induction m with
    | nil => intro s hs _; exact hs
    | cons x m ih =>
      intro s hs hm
      refine ih _ ?_ (fun y hy => hm y (by simp [hy]))
      have h1 := (h s).1 hs
      have h2 := (h x).1 (hm x (by simp))
      refine (h _).2 ⟨Nat.lt_of_le_of_lt Nat.and_le_left h1.1, fun k hk => ?_, disp_meets P h1.1 h2.1 hil h1.2.1 h2.2.1 hi h1.2.2 h2.2.2⟩
      rw [Nat.testBit_and, h1.2.1 k hk, h2.2.1 k hk]; rfl
  refine key l _ ((h _).2 ⟨by have := Nat.two_pow_pos n; omega, fun k hk => ?_, disp_all P⟩) (fun x hx => hx)
  rw [Nat.testBit_two_pow_sub_one, decide_eq_true (lt_bit hil hk)]

theorem bf_ill {f g : Nat → Nat → Bool} {D n ill : Nat} {l : List Nat} (hil : ill < 2 ^ n) (h : AllL f g D n ill l) : Sub ill (bfold n l) := fun k hk => bf_bit.2 ⟨lt_bit hil hk, fun x hx => ((h x).1 hx).2.1 k hk⟩

theorem int_bit {n b k : Nat} : (outS n b).testBit k = true ↔ k < n ∧ b.testBit k = false := by
  rw [outS_bit]; simp

/-- The intact members are a quorum of High. -/
theorem int_quorum {f g : Nat → Nat → Bool} {D n ill : Nat} {l : List Nat} (P : PairF f g D n) (hil : ill < 2 ^ n) (hi : IntB f D ill) (h : AllL f g D n ill l) (h0 : outS n (bfold n l) ≠ 0) : QB g D 0 (outS n (bfold n l)) := by
  rcases ((h _).1 (bf_mem P hil hi h)).2.2.1 with h1 | h1
  · exact absurd h1 h0
  · exact h1

/-- A quorum of High is one of Low. -/
theorem quorum_low {f g : Nat → Nat → Bool} {D n u : Nat} (P : PairF f g D n) (h : QB g D 0 u) : QB f D 0 u :=
  ⟨h.1, h.2.1, fun k hk => ⟨(h.2.2 k hk).1, (h.2.2 k hk).2.1, P.gf k _ (h.2.2 k hk).2.1 (or_lt h.2.1 (by omega)) (h.2.2 k hk).2.2⟩⟩

theorem bf_mono {f g : Nat → Nat → Bool} {D n ill more : Nat} {l m : List Nat} (hs : Sub ill more) (h : AllL f g D n ill l) (h' : AllL f g D n more m) : Sub (bfold n l) (bfold n m) := fun k hk =>
  bf_bit.2 ⟨(bf_bit.1 hk).1, fun x hx => (bf_bit.1 hk).2 x ((h x).2 ⟨((h' x).1 hx).1, fun j hj => ((h' x).1 hx).2.1 j (hs j hj), ((h' x).1 hx).2.2⟩)⟩

theorem sub_anti {a b : Nat} (h1 : Sub a b) (h2 : Sub b a) : a = b := Nat.eq_of_testBit_eq (fun k => by
  cases h : a.testBit k
  · cases h' : b.testBit k
    · rfl
    · rw [h2 k h'] at h; cases h
  · rw [h1 k h])

theorem bf_again {f g : Nat → Nat → Bool} {D n ill : Nat} {l m : List Nat} (P : PairF f g D n) (hil : ill < 2 ^ n) (hi : IntB f D ill) (h : AllL f g D n ill l) (h' : AllL f g D n (bfold n l) m) : bfold n m = bfold n l := by
  refine sub_anti (bf_sub ((h' _).2 ⟨bf_lt n l, fun k hk => hk, ((h _).1 (bf_mem P hil hi h)).2.2⟩)) (bf_mono (bf_ill hil h) h h')

theorem bf_int {f g : Nat → Nat → Bool} {D n ill : Nat} {l : List Nat} (P : PairF f g D n) (hil : ill < 2 ^ n) (hi : IntB f D ill) (h : AllL f g D n ill l) : IntB f D (bfold n l) := ((h _).1 (bf_mem P hil hi h)).2.2.2

theorem compl_bit {s k : Nat} (h : s < 1024) : (1023 - s).testBit k = (decide (k < 10) && !s.testBit k) := by
  have : 1023 - s = 2 ^ 10 - (s + 1) := by omega
  rw [this, Nat.testBit_two_pow_sub_succ h]

/-- The cascade: as long as an intact member is missing, one that is missing is blocked. -/
theorem casc_step {f g : Nat → Nat → Bool} {D n ill u x : Nat} {l : List Nat} (P : PairF f g D n) (hil : ill < 2 ^ n) (hi : IntB f D ill) (h : AllL f g D n ill l) (hloc : ∀ k s, D.testBit k = true → s < 1024 → f k s = f k (s &&& (2 ^ n - 1)))
    (hu : QB f D 0 u) (hua : ∃ k, u.testBit k = true ∧ (outS n (bfold n l)).testBit k = true) (hux : ∀ k, u.testBit k = true → (outS n (bfold n l)).testBit k = true → x.testBit k = true) (hx : x < 1024)
    (hne : ∃ k, (outS n (bfold n l)).testBit k = true ∧ x.testBit k = false) :
    ∃ k, (outS n (bfold n l)).testBit k = true ∧ x.testBit k = false ∧ D.testBit k = true ∧ f k (1023 - (x &&& outS n (bfold n l))) = false := by
  have p10 := pow_1024 P.n10
  obtain ⟨b, hb⟩ : ∃ b, bfold n l = b := ⟨_, rfl⟩
  have hbi := bf_int P hil hi h
  have hbl := bf_lt n l
  have h0 : outS n (bfold n l) ≠ 0 := by obtain ⟨k, hk⟩ := hne; exact ne_of_bit hk.1
  have hq := int_quorum P hil hi h h0
  simp only [hb] at hbi hbl h0 hq hua hux hne ⊢
  have ha := outS_lt2 n b
  obtain ⟨a, haa⟩ : ∃ a, outS n b = a := ⟨_, rfl⟩
  have hab : ∀ k, a.testBit k = true ↔ k < n ∧ b.testBit k = false := fun k => by rw [← haa]; exact int_bit
  simp only [haa] at h0 hq ha hua hux hne ⊢
  refine Classical.byContradiction fun hno => ?_
  have sat : ∀ k, a.testBit k = true → x.testBit k = false → f k (1023 - (x &&& a)) = true := fun k h1 h2 => by
    cases h3 : f k (1023 - (x &&& a))
    · exact absurd ⟨k, h1, h2, (hq.2.2 k h1).2.1, h3⟩ hno
    · rfl
  have hxa : x &&& a < 1024 := and_ltL hx
  have q1 : QB f D b (minS a x) := by
    refine ⟨?_, minS_lt (by omega), fun k hk => ?_⟩
    · obtain ⟨k, h1, h2⟩ := hne
      exact ne_of_bit (k := k) (by rw [minS_bit, h1, h2]; rfl)
    · rw [minS_bit, Bool.and_eq_true, Bool.not_eq_true'] at hk
      refine ⟨((hab k).1 hk.1).2, (hq.2.2 k hk.1).2.1, ?_⟩
      have h3 := sat k hk.1 hk.2
      rw [hloc k _ (hq.2.2 k hk.1).2.1 (by omega)] at h3
      refine P.mf k _ _ (and_ltL (by omega)) (or_lt (minS_lt (by omega)) (by omega)) (fun j hj => ?_) h3
      rw [Nat.testBit_and, compl_bit hxa, Nat.testBit_two_pow_sub_one, Nat.testBit_and] at hj
      rw [Nat.testBit_or, minS_bit]
      simp only [Bool.and_eq_true, decide_eq_true_eq, Bool.not_eq_true', Bool.and_eq_false_iff] at hj
      cases hbj : b.testBit j
      · have hja := (hab j).2 ⟨hj.2, hbj⟩
        rw [hja]
        rcases hj.1.2 with h4 | h4
        · rw [h4]; rfl
        · rw [hja] at h4; cases h4
      · simp
  have q2 : QB f D b (u &&& a) := by
    refine ⟨?_, and_ltL hu.2.1, fun k hk => ?_⟩
    · obtain ⟨k, h1, h2⟩ := hua
      exact ne_of_bit (k := k) (by rw [Nat.testBit_and, h1, h2]; rfl)
    · rw [Nat.testBit_and, Bool.and_eq_true] at hk
      refine ⟨((hab k).1 hk.2).2, (hu.2.2 k hk.1).2.1, ?_⟩
      have h3 := (hu.2.2 k hk.1).2.2
      rw [Nat.or_zero, hloc k _ (hu.2.2 k hk.1).2.1 hu.2.1] at h3
      refine P.mf k _ _ (and_ltL hu.2.1) (or_lt (and_ltL hu.2.1) (by omega)) (fun j hj => ?_) h3
      rw [Nat.testBit_and, Nat.testBit_two_pow_sub_one] at hj
      rw [Nat.testBit_or, Nat.testBit_and]
      simp only [Bool.and_eq_true, decide_eq_true_eq] at hj
      cases hbj : b.testBit j
      · rw [hj.1, (hab j).2 ⟨hj.2, hbj⟩]; rfl
      · simp
  obtain ⟨k, k1, k2⟩ := hbi _ _ q1 q2
  rw [minS_bit, Bool.and_eq_true, Bool.not_eq_true'] at k1
  rw [Nat.testBit_and, Bool.and_eq_true] at k2
  rw [hux k k2.1 k2.2] at k1
  exact absurd k1.2 (by simp)

end Go.Proofs.Ytnfdacfhhkahhaa

namespace Go.Proofs.Ytnfdacfhhkahhaa
set_option linter.unusedVariables false
set_option linter.unusedSimpArgs false
open Go.RowKit

theorem bf_succ {n k b : Nat} {L : List Nat} (h : L[k]? = some b) : bfold n (L.take (k + 1)) = bfold n (L.take k) &&& b := by
  unfold bfold
  rw [List.take_add_one, h, List.foldl_append]; rfl

/-- What Of returns. -/
def OfIs (s : Nat) (ls hs : List Mem) (a : Nat) : Prop := (¬ InT (D3.delM s ls) ∧ a = 0) ∨ (InT (D3.delM s ls) ∧ ∃ L, AllIs s ls hs L ∧ a = outS ls.length (bfold ls.length L))

theorem OfIs.lt {s : Nat} {ls hs : List Mem} {a : Nat} (h : OfIs s ls hs a) : a < 2 ^ ls.length := by
  rcases h with ⟨_, rfl⟩ | ⟨_, L, _, rfl⟩
  · exact Nat.two_pow_pos _
  · exact outS_lt2 _ _

end Go.Proofs.Ytnfdacfhhkahhaa

namespace Go.Proofs.Ytnfdacfhhkahhaa
set_option linter.unusedVariables false
set_option linter.unusedSimpArgs false
open Go.RowKit

/-- Nobody outside of s is blocked by it. -/
def CClosed (d : Nat) (ms : List Mem) (s : Nat) : Prop := ∀ k, k < ms.length → s.testBit k = false → blkM d ms s k = false

/-- The nodes of l follow, one after the other, from s on, and lead to r. -/
def CasR (d : Nat) (ms : List Mem) : Nat → List Int → Nat → Prop
  | s, [], r => r = s
  | s, x :: l, r => ∃ k : Nat, x = (k : Int) ∧ k < ms.length ∧ s.testBit k = false ∧ blkM d ms s k = true ∧ CasR d ms (s ||| 2 ^ k) l r

theorem CasR.snoc {d : Nat} {ms : List Mem} : ∀ (l : List Int) (s r k : Nat), CasR d ms s l r → k < ms.length → r.testBit k = false → blkM d ms r k = true → CasR d ms s (l ++ [(k : Int)]) (r ||| 2 ^ k)
  | [], s, r, k, h, hk, hb, hu => by
    obtain rfl : r = s := h
    exact ⟨k, rfl, hk, hb, hu, rfl⟩
  | x :: l, s, r, k, h, hk, hb, hu => by
    obtain ⟨j, e, hj, hbj, huj, h2⟩ := h
    exact ⟨j, e, hj, hbj, huj, CasR.snoc l _ r k h2 hk hb hu⟩

theorem CasR.none {d : Nat} {ms : List Mem} {s r : Nat} {l : List Int} (h : CasR d ms s l r) (hc : CClosed d ms s) : l = [] ∧ r = s := by
  cases l with
  | nil => exact ⟨rfl, h⟩
  | cons x l =>
    obtain ⟨k, _, hk, hb, hu, _⟩ := h
    rw [hc k hk hb] at hu; cases hu

/-- r is what a cascade from S has reached. -/
structure CasAt (d : Nat) (ms : List Mem) (S : Nat) (gs : List Int) (r : Nat) : Prop where
  lt : r < 1024
  len : gs.length + S ≤ r
  sub : Sub S r
  cas : CasR d ms S gs r
  least : ∀ Q, Q < 1024 → Sub S Q → CClosed d ms Q → Sub r Q

theorem CasAt.first {d : Nat} {ms : List Mem} {S : Nat} (h : S < 1024) : CasAt d ms S [] S := ⟨h, by simp, fun _ h => h, rfl, fun Q _ h _ => h⟩

theorem or_grows {r k : Nat} (hb : r.testBit k = false) : r + 1 ≤ r ||| 2 ^ k := by
  have h1 : r ≤ r ||| 2 ^ k := Nat.left_le_or
  rcases Nat.lt_or_ge r (r ||| 2 ^ k) with h2 | h2
  · exact h2
  · have e : r ||| 2 ^ k = r := by omega
    have h3 : (r ||| 2 ^ k).testBit k = true := by rw [Nat.testBit_or, Nat.testBit_two_pow_self, Bool.or_true]
    rw [e, hb] at h3; cases h3

theorem CasAt.step {d : Nat} {ms : List Mem} {S : Nat} {gs : List Int} {r k : Nat} (h : CasAt d ms S gs r) (hl : ms.length ≤ 10) (hk : k < ms.length) (hb : r.testBit k = false) (hu : blkM d ms r k = true) : CasAt d ms S (gs ++ [(k : Int)]) (r ||| 2 ^ k) := by
  have hg := or_grows hb
  have hp : 2 ^ k < 2 ^ 10 := Nat.pow_lt_pow_right (by omega) (by omega)
  refine ⟨Nat.or_lt_two_pow (n := 10) h.lt hp, by have := h.len; simp; omega, fun j hj => ?_, h.cas.snoc _ _ _ _ hk hb hu, fun Q hQ hQS hQc => fun j hj => ?_⟩
  · rw [Nat.testBit_or, h.sub j hj]; rfl
  · rw [Nat.testBit_or, Bool.or_eq_true] at hj
    have h1 := h.least Q hQ hQS hQc
    rcases hj with hj | hj
    · exact h1 j hj
    · rw [Nat.testBit_two_pow] at hj
      obtain rfl : k = j := by simpa using hj
      cases hq : Q.testBit k
      · have h2 := hQc k hk hq
        rw [blkM_sub hQ h1 hu] at h2; cases h2
      · rfl

/-- C is the cascade of S. -/
structure IsCas (d : Nat) (ms : List Mem) (S C : Nat) : Prop where
  sub : Sub S C
  closed : CClosed d ms C
  least : ∀ Q, Q < 1024 → Sub S Q → CClosed d ms Q → Sub C Q

theorem CasAt.is {d : Nat} {ms : List Mem} {S : Nat} {gs : List Int} {r : Nat} (h : CasAt d ms S gs r) (hc : CClosed d ms r) : IsCas d ms S r := ⟨h.sub, hc, h.least⟩

/-- What following says. -/
def FOk (d : Nat) (ms : List Mem) (s : Nat) (K : Int) : Prop := (∃ k : Nat, K = (k : Int) ∧ k < ms.length ∧ s.testBit k = false ∧ blkM d ms s k = true) ∨ (K = -1 ∧ CClosed d ms s)

set_option maxRecDepth 100000 in
set_option maxHeartbeats 4000000 in
theorem following_run (P : Nat → Prop) (d : Nat) (ms : List Mem) (v : Value) (s : Nat) (w : World) (hl : ms.length ≤ 10) (hs : s < 1024) (h : MemsAt P d w v ms) :
    Calls Try.prog 51 #[.agg #[v], .int .i64 (s : Int)] w fun e w' => ∃ K : Int, e = .returned (.int .i64 K) ∧ FOk d ms s K ∧ Below w.heap.size w w' := by
  obtain ⟨A, c, rfl⟩ := h.slice
  have hb1 : Below w.heap.size w (w.alloc (.cells #[.slice A ms.length c] 27)) := balloc (bref w) _
  have k0 : (w.alloc (.cells #[.slice A ms.length c] 27)).heap[w.heap.size]? = some (.cells #[.slice A ms.length c] 27 (0, 0)) := alloc_at rfl
  have H := Lib.hid (h.below hb1)
  have HB := Lib.hid hb1
  have K0 := Lib.hid k0
  clear h hb1 k0
  go_enter Try.func51, Try.ntmps51
  go_upto_region 1 with fail
  generalize w.alloc (.cells #[.slice A ms.length c] 27) = W1 at *
  generalize hg : w.heap.size = g at *
  have HG := Lib.hid hg
  clear hg
  have c0 : W1.cell? ⟨g, 0, none⟩ = some (.slice A ms.length c) := cell_of_row _ _ 0 _ _ (0, 0) K0.out
  have hgl := cell_lt c0
  have hmin : ¬ (10 : Int) < (ms.length : Int) := by omega
  go_wp2_with fail
  all_goals
    go_loopw [10] (fun t W => ∃ k : Nat, k ≤ ms.length ∧ t = .int .i64 k ∧ Hid (∀ i, i < k → s.testBit i = false → blkM d ms s i = false) ∧ Hid (Below W1.heap.size W1 W)) (fun t _ => ms.length - (intOf t).toNat)
    case atStart => exact ⟨0, by omega, rfl, Lib.hid (fun i hi => by omega), Lib.hid (bref _)⟩
    case round =>
      obtain ⟨k, hk, rfl, hNo, hB⟩ := hrel
      have c1 := (hB.out.cell hgl).trans c0
      by_cases hlt : k < ms.length
      · have hki : (k : Int) < (ms.length : Int) := by omega
        have hbit := hasB_bit hs (show k < 10 by omega)
        cases hb : s.testBit k
        · rw [hb] at hbit
          go_wp2_with fail
          refine (has_run _ _ _).mono ?_
          rintro e w2 ⟨rfl, rfl⟩
          rw [hbit]
          go_wp2_with fail
          refine (blocks_run _ d ms _ k s _ hl hs (by omega) (H.out.below hB.out)).mono ?_
          rintro e W3 ⟨rfl, hb3⟩
          have HB3 := Lib.hid (bstep hB.out hb3)
          clear hb3 c1
          cases hbl : blkM d ms s k
          · have HN2 := Lib.hid (show ∀ i, i < k + 1 → s.testBit i = false → blkM d ms s i = false from fun i hi hbi => by
              rcases Nat.lt_or_ge i k with h1 | h1
              · exact hNo.out i h1 hbi
              · obtain rfl : i = k := by omega
                exact hbl)
            clear hbl hb
            go_wp2_with fail
            go_roundw
            case rel => exact ⟨k + 1, by omega, by go_num, HN2, HB3⟩
            case measure => simp [intOf]; omega
          · have HF := Lib.hid (show FOk d ms s (k : Int) from .inl ⟨k, rfl, hlt, hb, hbl⟩)
            clear hbl hb
            go_wp2_with fail
            go_ret
            exact ⟨k, rfl, HF.out, by
              have h1 := HB.out
              rw [← HG.out] at h1
              exact bstep h1 HB3.out⟩
        · rw [hb] at hbit
          have HN2 := Lib.hid (show ∀ i, i < k + 1 → s.testBit i = false → blkM d ms s i = false from fun i hi hbi => by
            rcases Nat.lt_or_ge i k with h1 | h1
            · exact hNo.out i h1 hbi
            · obtain rfl : i = k := by omega
              rw [hb] at hbi; cases hbi)
          clear hb
          go_wp2_with fail
          refine (has_run _ _ _).mono ?_
          rintro e w2 ⟨rfl, rfl⟩
          rw [hbit]
          clear c1
          go_wp2_with fail
          go_roundw
          case rel => exact ⟨k + 1, by omega, by go_num, HN2, hB⟩
          case measure => simp [intOf]; omega
      · obtain rfl : k = ms.length := by omega
        have HF := Lib.hid (show FOk d ms s (-1) from .inr ⟨rfl, fun i hi hbi => hNo.out i hi hbi⟩)
        go_wp2_with fail
        go_ret
        exact ⟨-1, rfl, HF.out, by
          have h1 := HB.out
          rw [← HG.out] at h1
          exact bstep h1 hB.out⟩

set_option maxRecDepth 100000 in
set_option maxHeartbeats 4000000 in
theorem cascade_run (P : Nat → Prop) (d : Nat) (ms : List Mem) (v : Value) (s : Nat) (w : World) (hl : ms.length ≤ 10) (hs : s < 1024) (h : MemsAt P d w v ms) :
    Calls Try.prog 26 #[.agg #[v], .int .i64 (s : Int)] w fun e w' => ∃ (gv : Value) (gs : List Int) (C : Nat), e = .returned (.tuple #[gv, .int .i64 (C : Int)]) ∧ NodesAt (fun b => w.heap.size ≤ b) w' gv gs ∧ C < 1024 ∧ gs.length ≤ 1023 ∧ CasR d ms s gs C ∧ IsCas d ms s C ∧ Below w.heap.size w w' := by
  obtain ⟨A, c, rfl⟩ := h.slice
  obtain ⟨i0, hin, hz0, hz1, hz2⟩ := info_parts infoInt
  have hb1 : Below w.heap.size w (w.alloc (.cells #[.slice A ms.length c] 27)) := balloc (bref w) _
  have k0 : (w.alloc (.cells #[.slice A ms.length c] 27)).heap[w.heap.size]? = some (.cells #[.slice A ms.length c] 27 (0, 0)) := alloc_at rfl
  have H := Lib.hid (h.below hb1)
  have HB := Lib.hid hb1
  have K0 := Lib.hid k0
  have hsv := Lib.hid (show setB (s : Int) = true from setB_iff.2 ⟨by omega, by omega⟩)
  clear h hb1 k0
  go_enter Try.func26, Try.ntmps26
  go_upto_region 1 with fail
  generalize w.alloc (.cells #[.slice A ms.length c] 27) = W1 at *
  generalize hg : w.heap.size = g at *
  have HG := Lib.hid hg
  clear hg
  have c0 : W1.cell? ⟨g, 0, none⟩ = some (.slice A ms.length c) := cell_of_row _ _ 0 _ _ (0, 0) K0.out
  have hgl := cell_lt c0
  go_wp2_with fail
  refine (setValid_run _ _).mono ?_
  rintro e w2 ⟨rfl, rfl⟩
  rw [hsv.out]
  go_wp2_with fail
  refine (following_run _ d ms _ s _ hl hs H.out).mono ?_
  rintro e W3 ⟨K, rfl, hK, hb3⟩
  have HK := Lib.hid hK
  have HB3 := Lib.hid hb3
  clear hK hb3 c0
  go_wp2_with fail
  go_loopw [1, 6, 7] (fun r gv kv W => ∃ (have_ : Nat) (gs : List Int) (K : Int) (gw : Value), r = .int .i64 (have_ : Int) ∧ gv = gw ∧ kv = .int .i64 K ∧ W.ownsRow W1.heap.size 3 1 gw gs.length (gs.map (Value.int .i64)) ∧ Hid (CasAt d ms s gs have_) ∧ Hid (FOk d ms have_ K) ∧ Hid (Below W1.heap.size W1 W)) (fun r _ _ _ => 1024 - (intOf r).toNat)
  case atStart => exact ⟨s, [], K, .slice none 0 0, rfl, rfl, rfl, World.ownsRow_nil _ _ _ _, Lib.hid (CasAt.first hs), HK, HB3⟩
  case round =>
    obtain ⟨r, gs, K, gw, rfl, rfl, rfl, hown, hE, hKo, hB⟩ := hrel
    have hrl := hE.out.lt
    have hlen := hE.out.len
    rcases hKo.out with ⟨k, rfl, hk, hbit, hu⟩ | ⟨rfl, hcl⟩
    · have hE2 := hE.out.step hl hk hbit hu
      have hgr := or_grows hbit
      have HOR := Lib.hid (shl_or r k (by omega) (by omega))
      have HE2 := Lib.hid hE2
      have hr2 := hE2.lt
      have hk0 : (0 : Int) ≤ (k : Int) := by omega
      have hbs := hB.out.size
      clear hE2 hbit hu hKo
      go_wp2_with (at_builtin; refine wpList_append_own _ rfl _ _ 22 rfl W1.heap.size 3 i0 (.int .i64 0) 1 8 Try.underlying22 hin hz0 hz1 hz2 rfl (by decide) _ _ _ rfl (hown.alloc _) ⟨wr.heap.size, 0, none⟩ 1 1 [.int .i64 (k : Int)] rfl rfl (cell_one_new _ _ _) (fun u hu => by simp at hu; subst hu; rfl) (by unfold maxLen; omega) (by omega) (by simp; omega) ?_; intro v' w1 hown' hgrow hnil; have c1 : w1.cell? ⟨g, 0, none⟩ = some (.slice A ms.length c) := ((Below.grown (balloc hB.out (.cells #[.int .i64 (k : Int)] 3)) hgrow (by simp; omega) (fun j hj => (hown.lt j hj).1)).cell hgl).trans (cell_of_row _ _ 0 _ _ (0, 0) K0.out))
      have HO := Lib.hid (own_snoc hown')
      have HB4 := Lib.hid (Below.grown (balloc hB.out (.cells #[.int .i64 (k : Int)] 3)) hgrow (by simp; omega) (fun j hj => (hown.lt j hj).1))
      clear hown' hgrow hnil hown
      rw [HOR.out]
      refine (following_run _ d ms _ (r ||| 2 ^ k) _ hl hr2 (H.out.below HB4.out)).mono ?_
      rintro e W5 ⟨K2, rfl, hK2, hb5⟩
      have HK2 := Lib.hid hK2
      have HB5 := Lib.hid (bstep HB4.out hb5)
      have HO5 := Lib.hid (own_bel HO.out hb5)
      clear hK2 hb5 c1
      generalize r ||| 2 ^ k = r2 at *
      go_wp2_with fail
      go_roundw
      case rel => exact ⟨r2, gs ++ [(k : Int)], K2, _, rfl, rfl, rfl, by simpa using HO5.out, HE2, HK2, HB5⟩
      case measure => simp [intOf]; omega
    · have his := hE.out.is hcl
      have hcas := hE.out.cas
      have HN := Lib.hid (NodesAt.of_own hown)
      have hneg : ¬ (0 : Int) ≤ -1 := by omega
      have hN := nodes_imp (Q := fun b => w.heap.size ≤ b) HN.out (fun k hP => by have h1 := HG.out; have := HB.out; have := hgl; omega)
      have hBw : Below w.heap.size w wr := by
        have h1 := HB.out
        rw [← HG.out] at h1
        exact bstep h1 hB.out
      have HF := Lib.hid (And.intro hN (And.intro hrl (And.intro (show gs.length ≤ 1023 by omega) (And.intro hcas (And.intro his hBw)))))
      clear his hcas hown HN hcl hKo hE hN hBw
      go_wp2_with fail
      go_ret2
      exact ⟨_, gs, r, rfl, HF.out⟩

end Go.Proofs.Ytnfdacfhhkahhaa

namespace Go.Proofs.Ytnfdacfhhkahhaa
set_option linter.unusedVariables false
set_option linter.unusedSimpArgs false
open Go.RowKit

theorem rb_fact (s k : Nat) (hs : s < 1024) (hk : k < 10) : bits .or .i64 (IntKind.i64.wrap (1023 - (s : Int))) (IntKind.i64.wrap (2 ^ k)) = ((1023 - offS s k : Nat) : Int) := by
  have all : ∀ s : Fin 1024, ∀ k : Fin 10, bits .or .i64 (IntKind.i64.wrap (1023 - (s.val : Int))) (IntKind.i64.wrap (2 ^ k.val)) = ((1023 - offS s.val k.val : Nat) : Int) := by decide +kernel
  exact all ⟨s, hs⟩ ⟨k, hk⟩

theorem blk_sat (d : Nat) (T : Tree) {o : Nat} (ho : o < 1024) : blkB d T (o : Int) = !satB d T ((1023 - o : Nat) : Int) := by
  unfold blkB satB
  rw [setB_iff.2 ⟨by omega, by omega⟩, setB_iff.2 ⟨by omega, by omega⟩, Bool.true_and, Bool.true_and, show ((1023 - o : Nat) : Int) = 1023 - (o : Int) by omega]

end Go.Proofs.Ytnfdacfhhkahhaa

namespace Go.Proofs.Ytnfdacfhhkahhaa
set_option linter.unusedVariables false
set_option linter.unusedSimpArgs false
open Go.RowKit

theorem allL_of {ls hs : List Mem} {s : Nat} {L : List Nat} (hp : PairM ls hs) (hl : ls.length ≤ 10) (h : AllIs s ls hs L) : AllL (fOf ls) (fOf hs) (declS ls ls.length) ls.length s L := fun t => by
  have p10 := pow_1024 hl
  rw [h.2.2 t]
  constructor
  · rintro ⟨h1, h2, h3⟩; exact ⟨h1, h2, (good_iff hp hl (by omega)).1 h3⟩
  · rintro ⟨h1, h2, h3⟩; exact ⟨h1, h2, (good_iff hp hl (by omega)).2 h3⟩

theorem ofIs_iff {ls hs : List Mem} {s a : Nat} (hp : PairM ls hs) (hl : ls.length ≤ 10) (hs2 : s < 2 ^ ls.length) (h : OfIs s ls hs a) :
    (¬ IntB (fOf ls) (declS ls ls.length) s ∧ a = 0) ∨ (IntB (fOf ls) (declS ls ls.length) s ∧ ∃ L, AllL (fOf ls) (fOf hs) (declS ls ls.length) ls.length s L ∧ AllIs s ls hs L ∧ a = outS ls.length (bfold ls.length L)) := by
  have p10 := pow_1024 hl
  rcases h with ⟨h1, h2⟩ | ⟨h1, L, h2, h3⟩
  · exact .inl ⟨fun h => h1 ((inT_iff hl (by omega) hp.okl).2 h), h2⟩
  · exact .inr ⟨(inT_iff hl (by omega) hp.okl).1 h1, L, allL_of hp hl h2, h2, h3⟩

theorem out_out {n b : Nat} (h : b < 2 ^ n) : outS n (outS n b) = b := by
  apply Nat.eq_of_testBit_eq
  intro k
  rw [outS_bit, outS_bit]
  cases hb : b.testBit k
  · cases decide (k < n) <;> rfl
  · rw [decide_eq_true (lt_bit h hb)]; rfl

theorem out_sub {n a b : Nat} (h : Sub a b) : Sub (outS n b) (outS n a) := fun k hk => by
  rw [outS_bit, Bool.and_eq_true, Bool.not_eq_true'] at hk ⊢
  refine ⟨hk.1, ?_⟩
  cases ha : a.testBit k
  · rfl
  · rw [h k ha] at hk; cases hk.2

/-- No set disjoint from a quorum blocks one of its members. -/
theorem blk_no {ms : List Mem} {D a x k : Nat} (hl : ms.length ≤ 10) (hD : declS ms ms.length = D) (hq : QB (fOf ms) D 0 a) (hk : a.testBit k = true) (hx : x < 1024) (hd : ∀ j, a.testBit j = true → x.testBit j = false) : blkM 3 ms x k = false := by
  have ho : offS x k < 1024 := offS_lt hx
  have h1 := (hq.2.2 k hk).2.2
  rw [Nat.or_zero] at h1
  unfold fOf at h1
  rw [sat_of hq.2.1] at h1
  have h2 : holdsT 3 (hasB (1023 - ((offS x k : Nat) : Int))) (trOf ms k) = true := holdsT_monoA (fun j hj => by
    rw [hasB_compl ho]
    unfold hasB at hj
    rw [Bool.and_eq_true, Bool.and_eq_true] at hj
    have h4 : a.testBit j.toNat = true := by simpa using hj.2.2
    rw [hj.2.1, Bool.true_and, Bool.not_eq_true', offS_bit, hd _ h4]; rfl) 3 _ h1
  unfold blkM blkB
  rw [h2]
  simp

/-- The intact members are a quorum of both. -/
theorem of_quorum {ls hs : List Mem} {s a : Nat} (hp : PairM ls hs) (hl : ls.length ≤ 10) (hs2 : s < 2 ^ ls.length) (h : OfIs s ls hs a) (h0 : a ≠ 0) : QB (fOf hs) (declS ls ls.length) 0 a ∧ QB (fOf ls) (declS ls ls.length) 0 a := by
  rcases ofIs_iff hp hl hs2 h with ⟨_, h2⟩ | ⟨h1, L, h2, _, rfl⟩
  · exact absurd h2 h0
  · have h3 := int_quorum (pairF hp hl) hs2 h1 h2 h0
    exact ⟨h3, quorum_low (pairF hp hl) h3⟩

theorem of_blocks {ls hs : List Mem} {s a k x : Nat} (hp : PairM ls hs) (hl : ls.length ≤ 10) (hs2 : s < 2 ^ ls.length) (h : OfIs s ls hs a) (hk : a.testBit k = true) (hx : x < 1024) (hd : ∀ j, a.testBit j = true → x.testBit j = false) : blkM 3 ls x k = false ∧ blkM 3 hs x k = false := by
  have h0 : a ≠ 0 := by rintro rfl; simp at hk
  have h1 := of_quorum hp hl hs2 h h0
  exact ⟨blk_no hl rfl h1.2 hk hx hd, blk_no (by rw [hp.len]; exact hl) hp.decl h1.1 hk hx hd⟩

theorem of_less {ls hs : List Mem} {s t a b : Nat} (hp : PairM ls hs) (hl : ls.length ≤ 10) (hs2 : s < 2 ^ ls.length) (ht2 : t < 2 ^ ls.length) (hst : Sub s t) (h : OfIs s ls hs a) (h' : OfIs t ls hs b) (h0 : a ≠ 0) : b &&& a = b := by
  rcases ofIs_iff hp hl hs2 h with ⟨_, h2⟩ | ⟨h1, L, h2, _, rfl⟩
  · exact absurd h2 h0
  · rcases ofIs_iff hp hl ht2 h' with ⟨_, rfl⟩ | ⟨h1', L', h2', _, rfl⟩
    · simp
    · exact and_self_sub.2 (out_sub (bf_mono hst h2 h2'))

theorem of_again {ls hs : List Mem} {s a c : Nat} (hp : PairM ls hs) (hl : ls.length ≤ 10) (hs2 : s < 2 ^ ls.length) (h : OfIs s ls hs a) (h0 : a ≠ 0) (h' : OfIs (outS ls.length a) ls hs c) : c = a := by
  rcases ofIs_iff hp hl hs2 h with ⟨_, h2⟩ | ⟨h1, L, h2, _, rfl⟩
  · exact absurd h2 h0
  · rw [out_out (bf_lt _ _)] at h'
    have h3 := bf_int (pairF hp hl) hs2 h1 h2
    rcases ofIs_iff hp hl (bf_lt _ _) h' with ⟨h4, _⟩ | ⟨_, L', h4, _, rfl⟩
    · exact absurd h3 h4
    · rw [bf_again (pairF hp hl) hs2 h1 h2 h4]

theorem of_uniq {ls hs : List Mem} {s a b : Nat} (hp : PairM ls hs) (hl : ls.length ≤ 10) (h : OfIs s ls hs a) (h' : OfIs s ls hs b) : a = b := by
  rcases h with ⟨h1, rfl⟩ | ⟨h1, L, h2, rfl⟩ <;> rcases h' with ⟨h1', rfl⟩ | ⟨h1', L', h2', rfl⟩
  · rfl
  · exact absurd h1' h1
  · exact absurd h1 h1'
  · rw [asc_ext h2.1 h2'.1 (fun t => by rw [h2.2.2 t, h2'.2.2 t])]

end Go.Proofs.Ytnfdacfhhkahhaa

namespace Go.Proofs.Ytnfdacfhhkahhaa
set_option linter.unusedVariables false
set_option linter.unusedSimpArgs false
open Go.RowKit

/-- What the reference's Of returns. -/
def ROfIs (s : Nat) (ls hs : List Mem) (a : Nat) : Prop := (¬ InT (D3.delM s ls) ∧ a = 0) ∨ (InT (D3.delM s ls) ∧ ∃ L, RAllIs s ls hs L ∧ a = outS ls.length (bfold ls.length L))
theorem ROfIs.lt {s : Nat} {ls hs : List Mem} {a : Nat} (h : ROfIs s ls hs a) : a < 2 ^ ls.length := by
  rcases h with ⟨_, rfl⟩ | ⟨_, L, _, rfl⟩
  · exact Nat.two_pow_pos _
  · exact outS_lt2 _ _
theorem rallL_of {ls hs : List Mem} {s : Nat} {L : List Nat} (hp : PairM ls hs) (hl : ls.length ≤ 10) (h : RAllIs s ls hs L) : AllL (fOf ls) (fOf hs) (declS ls ls.length) ls.length s L := fun t => by
  have p10 := pow_1024 hl
  rw [h.2 t]
  constructor
  · rintro ⟨h1, h2, h3⟩; exact ⟨h1, h2, (good_iff hp hl (by omega)).1 h3⟩
  · rintro ⟨h1, h2, h3⟩; exact ⟨h1, h2, (good_iff hp hl (by omega)).2 h3⟩
theorem rof_quorum {ls hs : List Mem} {s a : Nat} (hp : PairM ls hs) (hl : ls.length ≤ 10) (hs2 : s < 2 ^ ls.length) (h : ROfIs s ls hs a) (h0 : a ≠ 0) : QB (fOf hs) (declS ls ls.length) 0 a ∧ QB (fOf ls) (declS ls ls.length) 0 a := by
  have p10 := pow_1024 hl
  rcases h with ⟨_, h2⟩ | ⟨h1, L, h2, rfl⟩
  · exact absurd h2 h0
  · have h3 := int_quorum (pairF hp hl) hs2 ((inT_iff hl (by omega) hp.okl).1 h1) (rallL_of hp hl h2) h0
    exact ⟨h3, quorum_low (pairF hp hl) h3⟩
theorem rof_blocks {ls hs : List Mem} {s a k x : Nat} (hp : PairM ls hs) (hl : ls.length ≤ 10) (hs2 : s < 2 ^ ls.length) (h : ROfIs s ls hs a) (hk : a.testBit k = true) (hx : x < 1024) (hd : ∀ j, a.testBit j = true → x.testBit j = false) : blkM 3 ls x k = false ∧ blkM 3 hs x k = false := by
  have h0 : a ≠ 0 := by rintro rfl; simp at hk
  have h1 := rof_quorum hp hl hs2 h h0
  exact ⟨blk_no hl rfl h1.2 hk hx hd, blk_no (by rw [hp.len]; exact hl) hp.decl h1.1 hk hx hd⟩
set_option maxRecDepth 100000 in
set_option maxHeartbeats 400000 in
theorem rfmembers_run (A : Option Addr) (n c : Nat) (hn : n ≤ 10) (w : World) : Calls Try.prog 45 #[.agg #[.slice A n c]] w fun e w' => e = .returned (.int .i64 ((2 ^ n - 1 : Nat) : Int)) ∧ Below w.heap.size w w' := by
  have hp := pow11 n (by omega)
  have hp1 : 1 ≤ 2 ^ n := Nat.one_le_pow _ _ (by omega)
  have hp2 : 2 ^ n ≤ 2 ^ 10 := Nat.pow_le_pow_right (by omega) hn
  obtain ⟨N, hN⟩ : ∃ N, 2 ^ n = N := ⟨_, rfl⟩
  rw [hN] at hp hp1 hp2 ⊢
  clear hN
  have hw1 : wrap64 ((N : Int) - 1) = (N : Int) - 1 := by unfold wrap64; omega
  have hn64 : (n : Int) < 64 := by omega
  have HE := Lib.hid (show ((N - 1 : Nat) : Int) = (N : Int) - 1 by omega)
  go_enter Try.func45, Try.ntmps45
  go_wp2_with fail
  go_ret
  exact ⟨by rw [HE.out]; rfl, balloc (bref _) _⟩


set_option maxRecDepth 100000 in
set_option maxHeartbeats 4000000 in
theorem rfbegin_run (P Q : Nat → Prop) (ls hs : List Mem) (vl vh : Value) (s : Nat) (hsx : s < 2 ^ ls.length) (w : World) (hl : ls.length ≤ 7) (h1 : MemsAt P 3 w vl ls) (h2 : MemsAt Q 3 w vh hs) (hp : PairM ls hs) :
    Calls Try.prog 65 #[.agg #[vl], .agg #[vh], .int .i64 (s : Int)] w fun e w' => e = .returned (.int .i64 0) ∧ Below w.heap.size w w' := by
  have HS := Lib.hid hsx
  clear hsx
  obtain ⟨A, c, rfl⟩ := h1.slice
  obtain ⟨B, d, rfl⟩ := h2.slice
  have hlen := hp.len
  have hokl := hp.okl
  have hokh := hp.okh
  have hdec := hp.decl
  have HDL := Lib.hid (fun W (h : MemsAt P 3 W (.slice A ls.length c) ls) => declared_run P 3 ls _ W (by omega) h)
  have HDH := Lib.hid (fun W (h : MemsAt Q 3 W (.slice B hs.length d) hs) => declared_run Q 3 hs _ W (by omega) h)
  rw [hdec] at HDH
  rw [hlen] at h2 HDH hokh ⊢
  obtain ⟨n, hn⟩ : ∃ n, ls.length = n := ⟨_, rfl⟩
  have HN := Lib.hid hn
  have HNH := Lib.hid hlen
  rw [hn] at HNH
  have HD := Lib.hid (fun k (h : (declS ls ls.length).testBit k = true) => declS_bit h)
  have HDM := Lib.hid (fun k (h : (declS ls ls.length).testBit k = true) => declS_memD h)
  have hDl : declS ls ls.length < 1024 := declS_lt ls _ (by omega)
  generalize declS ls ls.length = D at HDL HDH hDl HD HDM
  rw [hn] at h1 h2 HDL HDH hokl hokh hl HD ⊢
  have HP := Lib.hid hp
  have HOL := Lib.hid hokl
  have HOH := Lib.hid hokh
  have HPA := Lib.hid (PA.new h1 h2)
  clear h1 h2 hp hokl hokh hn hdec hlen
  go_enter Try.func65, Try.ntmps65
  go_upto_region 1 with fail
  generalize ((w.alloc (.cells #[.slice A n c] 27)).alloc (.cells #[.slice B n d] 27)) = W1 at *
  generalize w.heap.size = g at HPA ⊢
  have l0 := HPA.out.cs.1
  have h0 := HPA.out.cs.2.1
  go_wp2_with fail
  refine (rdvalid_run P Q ls hs _ _ _ (by rw [HN.out]; exact hl) HPA.out.ml HPA.out.mh HP.out).mono ?_
  rintro e W1x ⟨rfl, hbx⟩
  have HPA1 := Lib.hid (HPA.out.to hbx)
  clear hbx l0 h0
  have l1 := HPA1.out.cs.1
  have h1 := HPA1.out.cs.2.1
  have hsM : ¬ (((2 ^ n - 1 : Nat) : Int) < (s : Int)) := by have h := HS.out; rw [HN.out] at h; omega
  have hs0 : ¬ (s : Int) < 0 := by omega
  have HMR := Lib.hid (fun W => rfmembers_run A n c (by omega) W)
  generalize 2 ^ n - 1 = M at hsM HMR
  go_wp2_with fail
  refine (HMR.out _).mono ?_
  rintro e W2x ⟨rfl, hb2⟩
  have HB2 := Lib.hid (HPA1.out.to hb2).bel
  clear hb2 l1 h1
  go_wp2_with fail
  go_ret
  exact ⟨rfl, HB2.out⟩
def BefIs (s : Nat) (ls hs : List Mem) (b : Nat) : Prop := (¬ InT (D3.delM s ls) ∧ b = 2 ^ ls.length - 1) ∨ (InT (D3.delM s ls) ∧ ∃ L, RAllIs s ls hs L ∧ b = bfold ls.length L)
theorem outS_num {n b : Nat} (hn : n ≤ 10) (hb : b ≤ 2 ^ n - 1) : 2 ^ n - 1 - b = outS n b := by
  have h := outS_sub n b hn hb
  have hp2 : 2 ^ n ≤ 2 ^ 10 := Nat.pow_le_pow_right (by omega) hn
  rw [IntKind.wrap_i64] at h
  omega
theorem BefIs.of {s : Nat} {ls hs : List Mem} {b : Nat} (hl : ls.length ≤ 10) (h : BefIs s ls hs b) : b < 2 ^ ls.length ∧ ROfIs s ls hs (2 ^ ls.length - 1 - b) := by
  have h1 : 1 ≤ 2 ^ ls.length := Nat.one_le_two_pow
  rcases h with ⟨h2, rfl⟩ | ⟨h2, L, h3, rfl⟩
  · exact ⟨by omega, .inl ⟨h2, by omega⟩⟩
  · have h4 := bf_lt ls.length L
    exact ⟨h4, .inr ⟨h2, L, h3, outS_num hl (by omega)⟩⟩

set_option maxRecDepth 100000 in
set_option maxHeartbeats 4000000 in
theorem rfbef_run (P Q : Nat → Prop) (ls hs : List Mem) (vl vh : Value) (s : Nat) (hsx : s < 2 ^ ls.length) (w : World) (hl : ls.length ≤ 7) (h1 : MemsAt P 3 w vl ls) (h2 : MemsAt Q 3 w vh hs) (hp : PairM ls hs) :
    Calls Try.prog 44 #[.agg #[vl], .agg #[vh], .int .i64 (s : Int)] w fun e w' => (∃ b : Nat, e = .returned (.tuple #[.int .i64 (b : Int), .int .i64 0]) ∧ BefIs s ls hs b) ∧ Below w.heap.size w w' := by
  have HS := Lib.hid hsx
  clear hsx
  obtain ⟨A, c, rfl⟩ := h1.slice
  obtain ⟨B, d, rfl⟩ := h2.slice
  have hlen := hp.len
  have hokl := hp.okl
  have hokh := hp.okh
  have hdec := hp.decl
  have HDL := Lib.hid (fun W (h : MemsAt P 3 W (.slice A ls.length c) ls) => declared_run P 3 ls _ W (by omega) h)
  have HDH := Lib.hid (fun W (h : MemsAt Q 3 W (.slice B hs.length d) hs) => declared_run Q 3 hs _ W (by omega) h)
  rw [hdec] at HDH
  rw [hlen] at h2 HDH hokh ⊢
  obtain ⟨n, hn⟩ : ∃ n, ls.length = n := ⟨_, rfl⟩
  have HN := Lib.hid hn
  have HNH := Lib.hid hlen
  rw [hn] at HNH
  have HD := Lib.hid (fun k (h : (declS ls ls.length).testBit k = true) => declS_bit h)
  have HDM := Lib.hid (fun k (h : (declS ls ls.length).testBit k = true) => declS_memD h)
  have hDl : declS ls ls.length < 1024 := declS_lt ls _ (by omega)
  generalize declS ls ls.length = D at HDL HDH hDl HD HDM
  rw [hn] at h1 h2 HDL HDH hokl hokh hl HD ⊢
  have HP := Lib.hid hp
  have HOL := Lib.hid hokl
  have HOH := Lib.hid hokh
  have HPA := Lib.hid (PA.new h1 h2)
  clear h1 h2 hp hokl hokh hn hdec hlen
  go_enter Try.func44, Try.ntmps44
  go_upto_region 1 with fail
  generalize ((w.alloc (.cells #[.slice A n c] 27)).alloc (.cells #[.slice B n d] 27)) = W1 at *
  generalize w.heap.size = g at HPA ⊢
  have l0 := HPA.out.cs.1
  have h0 := HPA.out.cs.2.1
  go_wp2_with fail
  refine (rfbegin_run P Q ls hs _ _ s HS.out _ (by rw [HN.out]; exact hl) HPA.out.ml HPA.out.mh HP.out).mono ?_
  rintro e W1x ⟨rfl, hbx⟩
  have HPA1 := Lib.hid (HPA.out.to hbx)
  clear hbx l0 h0
  have l1 := HPA1.out.cs.1
  have h1 := HPA1.out.cs.2.1
  go_wp2_with fail
  refine (rfmembers_run A n c (by omega) _).mono ?_
  rintro e Wm ⟨rfl, hbm⟩
  have HPA2 := Lib.hid (HPA1.out.to hbm)
  clear hbm l1 h1
  have l2 := HPA2.out.cs.1
  have h2 := HPA2.out.cs.2.1
  have HBF0 := Lib.hid (show bfold n (([] : List Nat)) = 2 ^ n - 1 from rfl)
  have HBL := Lib.hid (fun l => bf_lt n l)
  have hp10 : 2 ^ n ≤ 2 ^ 7 := Nat.pow_le_pow_right (by omega) (by omega)
  have HP10 := Lib.hid hp10
  obtain ⟨M, hM⟩ : ∃ M, 2 ^ n - 1 = M := ⟨_, rfl⟩
  have hM10 : M < 1024 := by omega
  have HMM := Lib.hid hM
  rw [hM] at HBF0 ⊢
  clear hM hp10
  go_wp2_with fail
  refine (rdints_run P ls _ s _ (by rw [HN.out]; omega) HS.out HPA2.out.ml (by rw [HN.out]; exact HOL.out)).mono ?_
  rintro e W2x ⟨⟨x, rfl, hx⟩, hb2⟩
  have HX := Lib.hid hx
  have HPA3 := Lib.hid (HPA2.out.to hb2)
  clear hb2 hx l2 h2
  have l3 := HPA3.out.cs.1
  have h3 := HPA3.out.cs.2.1
  cases x
  · have HF := Lib.hid (show BefIs s ls hs M from .inl ⟨fun h => (by have := HX.out.2 h; cases this), by rw [HN.out, HMM.out]⟩)
    go_wp2_with fail
    go_ret2
    exact ⟨⟨M, rfl, HF.out⟩, HPA3.out.bel⟩
  · have HIN := Lib.hid (HX.out.1 (by first | rfl | trivial))
    go_wp2_with fail
    refine (rdall_run P Q ls hs _ _ s HS.out _ (by rw [HN.out]; exact hl) HPA3.out.ml HPA3.out.mh HP.out).mono ?_
    rintro e W3x ⟨⟨va, L, rfl, hnv, hal⟩, hb3⟩
    have HAL := Lib.hid hal
    obtain ⟨An, cn, rfl⟩ := hnv.slice
    have hzl : (zs L).length = L.length := by unfold zs; simp
    have hnv2 := hnv.both (w' := W3x) (Q := fun _ => True) (fun _ _ _ => rfl) (fun _ _ _ => trivial)
    rw [hzl] at hnv2 ⊢
    obtain ⟨m, hm⟩ : ∃ m, L.length = m := ⟨_, rfl⟩
    have hm10 : m ≤ 20000 := by rw [← hm]; exact hal.1
    rw [hm] at hnv2 ⊢
    have HN3 := Lib.hid hnv2
    have HML := Lib.hid hm
    have HPA4 := Lib.hid (HPA3.out.to hb3)
    clear hnv hal hzl hnv2 hm hb3 l3 h3
    go_wp2_with fail
    go_loopw [9, 43] (fun u t W => ∃ k : Nat, k ≤ m ∧ u = .int .i64 ((bfold n (L.take k) : Nat) : Int) ∧ t = .int .i64 (k : Int) ∧ Hid (Below W3x.heap.size W3x W)) (fun _ t _ => m - (intOf t).toNat)
    case atStart => exact ⟨0, Nat.zero_le _, by rw [List.take_zero, HBF0.out], rfl, Lib.hid (bref _)⟩
    case round =>
      obtain ⟨k, hk, rfl, rfl, hBe⟩ := hrel
      have hbl := HBL.out (L.take k)
      have hbl2 := HP10.out
      by_cases hlt : k < m
      · obtain ⟨b, hb⟩ : ∃ b, L[k]? = some b := ⟨_, List.getElem?_eq_getElem (by rw [HML.out]; exact hlt)⟩
        obtain ⟨A', c', hA', hcl⟩ := (HN3.out.below hBe.out)
        injection hA' with q1 q2 q3
        subst q1
        obtain ⟨bn, on, hbn, _, hcn⟩ := hcl k (by unfold zs; rw [List.length_map, HML.out]; exact hlt)
        subst hbn
        rw [zs_getD hb] at hcn
        have hb1 := ((HAL.out.2 b).1 (List.mem_of_getElem? hb)).1
        rw [HN.out] at hb1
        have hand := i64_and_nat (bfold n (L.take k)) b (by omega) (by omega)
        rw [← bf_succ (n := n) hb] at hand
        generalize bfold n (L.take k) = acc at hand ⊢
        clear hcl hb q2 q3 hbl hbl2
        go_wp2_with fail
        go_roundw
        case rel => exact ⟨k + 1, hlt, rfl, by go_num, hBe⟩
        case measure => simp [intOf]; omega
      · obtain rfl : k = m := by omega
        have HPA5 := Lib.hid (HPA4.out.to hBe.out)
        have HTK := Lib.hid (show bfold n (L.take k) = bfold n L from by rw [← HML.out, List.take_length])
        rw [HTK.out] at hbl ⊢
        have HF := Lib.hid (show BefIs s ls hs (bfold n L) from .inr ⟨HIN.out, L, HAL.out, by rw [HN.out]⟩)
        generalize bfold n L = bf at HF hbl ⊢
        go_wp2_with fail
        go_ret2
        exact ⟨⟨bf, rfl, HF.out⟩, HPA5.out.bel⟩

set_option maxRecDepth 100000 in
set_option maxHeartbeats 4000000 in
theorem rfof_run (P Q : Nat → Prop) (ls hs : List Mem) (vl vh : Value) (s : Nat) (hsx : s < 2 ^ ls.length) (w : World) (hl : ls.length ≤ 7) (h1 : MemsAt P 3 w vl ls) (h2 : MemsAt Q 3 w vh hs) (hp : PairM ls hs) :
    Calls Try.prog 16 #[.agg #[vl], .agg #[vh], .int .i64 (s : Int)] w fun e w' => (∃ a : Nat, e = .returned (.tuple #[.int .i64 (a : Int), .int .i64 0]) ∧ ROfIs s ls hs a) ∧ Below w.heap.size w w' := by
  have HS := Lib.hid hsx
  clear hsx
  obtain ⟨A, c, rfl⟩ := h1.slice
  obtain ⟨B, d, rfl⟩ := h2.slice
  have hlen := hp.len
  have hokl := hp.okl
  have hokh := hp.okh
  have hdec := hp.decl
  have HDL := Lib.hid (fun W (h : MemsAt P 3 W (.slice A ls.length c) ls) => declared_run P 3 ls _ W (by omega) h)
  have HDH := Lib.hid (fun W (h : MemsAt Q 3 W (.slice B hs.length d) hs) => declared_run Q 3 hs _ W (by omega) h)
  rw [hdec] at HDH
  rw [hlen] at h2 HDH hokh ⊢
  obtain ⟨n, hn⟩ : ∃ n, ls.length = n := ⟨_, rfl⟩
  have HN := Lib.hid hn
  have HNH := Lib.hid hlen
  rw [hn] at HNH
  have HD := Lib.hid (fun k (h : (declS ls ls.length).testBit k = true) => declS_bit h)
  have HDM := Lib.hid (fun k (h : (declS ls ls.length).testBit k = true) => declS_memD h)
  have hDl : declS ls ls.length < 1024 := declS_lt ls _ (by omega)
  generalize declS ls ls.length = D at HDL HDH hDl HD HDM
  rw [hn] at h1 h2 HDL HDH hokl hokh hl HD ⊢
  have HP := Lib.hid hp
  have HOL := Lib.hid hokl
  have HOH := Lib.hid hokh
  have HPA := Lib.hid (PA.new h1 h2)
  clear h1 h2 hp hokl hokh hn hdec hlen
  go_enter Try.func16, Try.ntmps16
  go_upto_region 1 with fail
  generalize ((w.alloc (.cells #[.slice A n c] 27)).alloc (.cells #[.slice B n d] 27)) = W1 at *
  generalize w.heap.size = g at HPA ⊢
  have l0 := HPA.out.cs.1
  have h0 := HPA.out.cs.2.1
  go_wp2_with fail
  refine (rfbef_run P Q ls hs _ _ s HS.out _ (by rw [HN.out]; exact hl) HPA.out.ml HPA.out.mh HP.out).mono ?_
  rintro e W1x ⟨⟨b, rfl, hof⟩, hbx⟩
  have HPA1 := Lib.hid (HPA.out.to hbx)
  clear hbx l0 h0
  have l1 := HPA1.out.cs.1
  have h1 := HPA1.out.cs.2.1
  have HOF := Lib.hid (BefIs.of (by rw [HN.out]; omega) hof)
  clear hof
  go_wp2_with fail
  refine (rfmembers_run A n c (by omega) _).mono ?_
  rintro e W2x ⟨rfl, hb2⟩
  have HB2 := Lib.hid (HPA1.out.to hb2).bel
  clear hb2 l1 h1
  have hal := HOF.out.1
  rw [HN.out] at hal
  have hp10 : 2 ^ n ≤ 2 ^ 7 := Nat.pow_le_pow_right (by omega) (by omega)
  have HF := Lib.hid (show ROfIs s ls hs (2 ^ n - 1 - b) from by have h := HOF.out.2; rw [HN.out] at h; exact h)
  obtain ⟨M, hM⟩ : ∃ M, 2 ^ n - 1 = M := ⟨_, rfl⟩
  have hbM : b ≤ M := by omega
  have hM10 : M < 1024 := by omega
  rw [hM] at HF ⊢
  clear hM hp10 hal
  obtain ⟨r, hr⟩ : ∃ r, M - b = r := ⟨_, rfl⟩
  have HR := Lib.hid (show ROfIs s ls hs r from by rw [← hr]; exact HF.out)
  have hri : (M : Int) - (b : Int) = (r : Int) := by omega
  clear hr HF
  go_wp2_with fail
  go_ret2
  exact ⟨⟨r, by first | rfl | rw [hri], HR.out⟩, HB2.out⟩
end Go.Proofs.Ytnfdacfhhkahhaa

namespace Go.Proofs.Ytnfdacfhhkahhaa
set_option linter.unusedVariables false
set_option linter.unusedSimpArgs false
open Go.RowKit

/-- The world of Pair: two boxes for the results, one for the configuration; nothing but the tape changes of what lay before. -/
structure PairW (w : World) (sb g cb B0 : Nat) (v : Value) (ms : List Mem) (W : World) : Prop where
  r0 : W.heap[g]? = some (.cells #[.slice none 0 0] 27 (0, 0))
  r1 : W.heap[g + 1]? = some (.cells #[.slice none 0 0] 27 (0, 0))
  box : W.heap[cb]? = some (.cells #[v] 27 (0, 0))
  mems : MemsAt (fun b => g + 2 ≤ b ∧ b < B0) 2 W v ms
  tape : TapeOk W sb
  gr : w.grownBy W (some sb)

theorem PairW.grow {w W W' : World} {sb g cb B0 : Nat} {v : Value} {ms : List Mem} (h : PairW w sb g cb B0 v ms W) (hsg : sb < g) (hcb : sb < cb) (hs : TapeOk W' sb) (hr : W.grownBy W' (some sb)) : PairW w sb g cb B0 v ms W' :=
  ⟨(hr.block _ (Array.getElem?_eq_some_iff.1 h.r0).1 (by simp; omega)).trans h.r0, (hr.block _ (Array.getElem?_eq_some_iff.1 h.r1).1 (by simp; omega)).trans h.r1, (hr.block _ (Array.getElem?_eq_some_iff.1 h.box).1 (by simp; omega)).trans h.box,
    h.mems.both (fun q hq hP => hr.block q hq (by simp; omega)) (fun _ _ h => h), hs, grown_trans h.gr hr⟩

theorem PairW.far {w W W' : World} {sb g cb B0 : Nat} {v : Value} {ms : List Mem} (h : PairW w sb g cb B0 v ms W) (hk : ∀ q, q < B0 → W'.heap[q]? = W.heap[q]?) (h1 : g + 1 < B0) (h2 : cb < B0) (h3 : sb < g) (hg : w.grownBy W' (some sb)) : PairW w sb g cb B0 v ms W' :=
  ⟨(hk _ (by omega)).trans h.r0, (hk _ (by omega)).trans h.r1, (hk _ h2).trans h.box, h.mems.both (fun q _ hP => hk q hP.2) (fun _ _ h => h), h.tape.keepLow (fun k hk2 => hk k (by omega)), hg⟩

theorem cell_one_new (w : World) (a : Value) (t : TypeId) : ∀ j u, [a][j]? = some u → (w.alloc (.cells #[a] t)).cell? ((⟨w.heap.size, 0, none⟩ : Addr).add j) = some u :=
  fun j u hu => World.news_of_block (heap_alloc_new w _) j u (by simpa using hu)

theorem infoLists : (Try.prog.info? 30).map (fun i => (i.zero, i.size, i.bytes)) = some (some (.slice none 0 0), 1, 24) := by kernel_rfl

theorem PairW.below {w W W' : World} {sb g cb B0 : Nat} {v : Value} {ms : List Mem} (h : PairW w sb g cb B0 v ms W) (hsg : sb < g) (hcb : sb < cb) (hb : Below W.heap.size W W') : PairW w sb g cb B0 v ms W' := h.grow hsg hcb (h.tape.below hb) (grown_below hb)

set_option maxRecDepth 100000 in
set_option maxHeartbeats 16000000 in
theorem mkPair_run (sb n : Nat) (hn : 1 ≤ n) (hn1 : n ≤ 10) (w : World) (hs : TapeOk w sb) :
    Calls Try.prog 14 #[.pointer (some ⟨sb, 0, none⟩), .int .i64 n] w fun e w' => ∃ (vl vh : Value) (ls hs : List Mem), e = .returned (.tuple #[.agg #[vl], .agg #[vh]]) ∧ PairM ls hs ∧ ls.length ≤ n ∧ MemsAt (fun b => w.heap.size ≤ b) 3 w' vl ls ∧ MemsAt (fun b => w.heap.size ≤ b) 3 w' vh hs ∧ TapeOk w' sb ∧ w.grownBy w' (some sb) := by
  have hsl := hs.lt
  have hb2 : Below w.heap.size w ((w.alloc (.cells #[.slice none 0 0] 27)).alloc (.cells #[.slice none 0 0] 27)) := balloc (balloc (bref w) _) _
  have HS1 := Lib.hid (show TapeOk ((w.alloc (.cells #[.slice none 0 0] 27)).alloc (.cells #[.slice none 0 0] 27)) sb from (hs.alloc _).alloc _)
  have K0 := Lib.hid (show ((w.alloc (.cells #[.slice none 0 0] 27)).alloc (.cells #[.slice none 0 0] 27)).heap[w.heap.size]? = some (.cells #[.slice none 0 0] 27 (0, 0)) from alloc_on (alloc_at rfl))
  have K1 := Lib.hid (show ((w.alloc (.cells #[.slice none 0 0] 27)).alloc (.cells #[.slice none 0 0] 27)).heap[w.heap.size + 1]? = some (.cells #[.slice none 0 0] 27 (0, 0)) from alloc_at (alloc_sz _ _))
  have HGR := Lib.hid (show w.grownBy ((w.alloc (.cells #[.slice none 0 0] 27)).alloc (.cells #[.slice none 0 0] 27)) (some sb) from grown_below hb2)
  have hsz : ((w.alloc (.cells #[.slice none 0 0] 27)).alloc (.cells #[.slice none 0 0] 27)).heap.size = w.heap.size + 2 := by rw [alloc_sz, alloc_sz]
  clear hs hb2
  go_enter Try.func14, Try.ntmps14
  go_upto_region 1 with fail
  generalize ((w.alloc (.cells #[.slice none 0 0] 27)).alloc (.cells #[.slice none 0 0] 27)) = W1 at *
  generalize hg : w.heap.size = g at *
  have HG := Lib.hid hg
  clear hg
  go_wp2_with fail
  refine (config_run sb n hn hn1 _ HS1.out).mono ?_
  rintro e W2 ⟨v, ms, rfl, hm1, hmn, hma, hmo, hs2, hg2⟩
  obtain ⟨Av, cv, rfl⟩ := hma.slice
  obtain ⟨m, hm⟩ : ∃ m, ms.length = m := ⟨_, rfl⟩
  have HML := Lib.hid hm
  have hz2 : g + 2 ≤ W2.heap.size := by have := hg2.size; omega
  have HP := Lib.hid (show PairW w sb g W2.heap.size (W2.heap.size + 1) (.slice Av m cv) ms (W2.alloc (.cells #[.slice Av m cv] 27)) from
    ⟨alloc_on ((hg2.block g (by omega) (by simp; omega)).trans K0.out), alloc_on ((hg2.block (g + 1) (by omega) (by simp; omega)).trans K1.out), alloc_at rfl,
      by
        rw [← hm]
        exact (hma.both (w' := W2) (Q := fun b => g + 2 ≤ b ∧ b < W2.heap.size + 1) (fun _ _ _ => rfl) (fun k hk hk2 => ⟨by omega, by omega⟩)).below (balloc (bref W2) _), hs2.alloc _, grown_trans (grown_trans HGR.out hg2) (grown_below (balloc (bref W2) _))⟩)
  have HMO := Lib.hid hmo
  rw [hm] at hm1 hmn ⊢
  clear hm hma hmo hs2 hg2 HS1 K0 K1 HGR
  go_upto_region 2 with fail
  have hzz : (W2.alloc (.cells #[.slice Av m cv] 27)).heap.size = W2.heap.size + 1 := alloc_sz _ _
  generalize (W2.alloc (.cells #[.slice Av m cv] 27)) = W3 at *
  generalize W2.heap.size = cb at *
  go_wp2_with fail
  refine (TN_run _ sb _ (by omega) (by omega) HP.out.tape).mono ?_
  rintro e W4 ⟨r, hr0, hr1, rfl, hs4, hg4⟩
  have HP4 := Lib.hid (HP.out.grow (by omega) (by omega) hs4 hg4)
  have hz34 := hg4.size
  clear hs4 hg4 HP
  have c0 : W4.cell? ⟨cb, 0, none⟩ = some (.slice Av m cv) := cell_of_row _ _ 0 _ _ (0, 0) HP4.out.box
  have hr2 : r = 0 ∨ r = 1 := by omega
  rcases hr2 with rfl | rfl
  · have z0 : W4.cell? ⟨g, 0, none⟩ = some (.slice none 0 0) := cell_of_row _ _ 0 _ _ (0, 0) HP4.out.r0
    have z1 : W4.cell? ⟨g + 1, 0, none⟩ = some (.slice none 0 0) := cell_of_row _ _ 0 _ _ (0, 0) HP4.out.r1
    have zf0 : W4.frozen? ⟨g, 0, none⟩ = false := by simp [World.frozen?, HP4.out.r0]
    have zf1 : W4.frozen? ⟨g + 1, 0, none⟩ = false := by simp [World.frozen?, HP4.out.r1]
    have er0 := HP4.out.r0
    have er1 := HP4.out.r1
    go_wp2_with fail
    go_region
    have HG8 := Lib.hid (show w.grownBy (((W4.setCell ⟨g, 0, none⟩ (.slice Av m cv)).setCell ⟨g + 1, 0, none⟩ (.slice Av m cv)).drew) (some sb) from grown_trans (gset (gset (HP4.out.gr) (p := ⟨g, 0, none⟩) (by show w.heap.size ≤ g; rw [HG.out]; exact Nat.le_refl _) _) (p := ⟨g + 1, 0, none⟩) (by show w.heap.size ≤ g + 1; rw [HG.out]; omega) _) (grown_below (bdrew (bref _))))
    have HH8 := Lib.hid (show ∀ q, q ≠ g → q ≠ g + 1 → (((W4.setCell ⟨g, 0, none⟩ (.slice Av m cv)).setCell ⟨g + 1, 0, none⟩ (.slice Av m cv)).drew).heap[q]? = W4.heap[q]? from fun q h1 h2 => (Below.heap_setCell _ _ _ q h2).trans (Below.heap_setCell _ _ _ q h1))
    have hs0 : (((W4.setCell ⟨g, 0, none⟩ (.slice Av m cv)).setCell ⟨g + 1, 0, none⟩ (.slice Av m cv)).drew).heap[g]? = some (.cells #[(.slice Av m cv)] 27 (0, 0)) := by
      have e1 : (W4.setCell ⟨g, 0, none⟩ (.slice Av m cv)).heap[g]? = some (.cells #[(.slice Av m cv)] 27 (0, 0)) := by simp [World.setCell, Array.getElem?_modify, er0]
      exact (Below.heap_setCell _ _ _ g (by show g ≠ g + 1; omega)).trans e1
    have hs1 : (((W4.setCell ⟨g, 0, none⟩ (.slice Av m cv)).setCell ⟨g + 1, 0, none⟩ (.slice Av m cv)).drew).heap[g + 1]? = some (.cells #[(.slice Av m cv)] 27 (0, 0)) := by
      have e1 : (W4.setCell ⟨g, 0, none⟩ (.slice Av m cv)).heap[g + 1]? = some (.cells #[.slice none 0 0] 27 (0, 0)) := (Below.heap_setCell _ _ _ (g + 1) (by show g + 1 ≠ g; omega)).trans er1
      show ((W4.setCell ⟨g, 0, none⟩ (.slice Av m cv)).setCell ⟨g + 1, 0, none⟩ (.slice Av m cv)).heap[g + 1]? = _
      simp [World.setCell, Array.getElem?_modify, er0, er1]
    have HTP8 := Lib.hid (show TapeOk (((W4.setCell ⟨g, 0, none⟩ (.slice Av m cv)).setCell ⟨g + 1, 0, none⟩ (.slice Av m cv)).drew) sb from (TapeOk.setCell (TapeOk.setCell (HP4.out.tape) (p := ⟨g, 0, none⟩) (by show sb < g; omega) _) (p := ⟨g + 1, 0, none⟩) (by show sb < g + 1; omega) _).drew)
    generalize (((W4.setCell ⟨g, 0, none⟩ (.slice Av m cv)).setCell ⟨g + 1, 0, none⟩ (.slice Av m cv)).drew) = W8 at *
    have y0 : W8.cell? ⟨g, 0, none⟩ = some ((.slice Av m cv)) := cell_of_row _ _ 0 _ _ (0, 0) hs0
    have y1 : W8.cell? ⟨g + 1, 0, none⟩ = some ((.slice Av m cv)) := cell_of_row _ _ 0 _ _ (0, 0) hs1
    have HY0 := Lib.hid y0
    have HY1 := Lib.hid y1
    clear hs0 hs1 y0 y1
    go_wp2_with fail
    have y0 := HY0.out
    have y1 := HY1.out
    have hML := HML.out
    refine bodyPost_ret (v := .tuple #[.agg #[.slice Av m cv], .agg #[.slice Av m cv]]) ?_ rfl ⟨_, _, ms, ms, rfl, PairM.same (by omega) (D3.ok_up HMO.out), by omega, ?_, ?_, HTP8.out, HG8.out⟩
    · simp [results, Try.results14, go_sem, y0, y1]
    all_goals
      have hG := HG.out
      refine (HP4.out.mems.both (w' := W8) (fun q hq hP => HH8.out q ?_ ?_) (fun q _ hP => by show w.heap.size ≤ q; omega)).up
      · have := hP.1; omega
      · have := hP.1; omega
  · obtain ⟨i1, hi1, hq0, hq1, hq2⟩ := info_parts infoLists
    obtain ⟨i3, hi3, hy0, hy1, hy2⟩ := info_parts infoTrust
    have HGW3 := Lib.hid HP4.out.gr
    have HZ3 := Lib.hid (show cb + 1 ≤ W4.heap.size from Nat.le_trans (by omega) hz34)
    go_wp2_with fail
    go_loopw [7, 27] (fun u t W => ∃ (k : Nat) (lv : Value) (tss : List (List Tree)), k ≤ m ∧ u = lv ∧ t = .int .i64 (k : Int) ∧ Hid (PairW w sb g cb (cb + 1) (.slice Av m cv) ms W) ∧ Hid (LRow (fun b => g + 2 ≤ b) W4.heap.size W lv tss) ∧ Hid (tss.length = k ∧ (∀ u ∈ tss, u.length ≤ 3) ∧ (∀ u ∈ tss, ∀ T ∈ u, WF m 2 T)) ∧ Hid (W4.grownBy W (some sb))) (fun _ t _ => m - (intOf t).toNat)
    case atStart => exact ⟨0, _, [], by omega, rfl, rfl, HP4, Lib.hid (LRow.nil _ _ _), Lib.hid ⟨rfl, fun _ h => absurd h (by simp), fun _ h => absurd h (by simp)⟩, Lib.hid (World.grownBy.refl _ _)⟩
    case round =>
      obtain ⟨k, lv, tss, hk, rfl, rfl, hPW, hRow, hTs, hGr⟩ := hrel
      have hzr : cb + 1 ≤ wr.heap.size := by have := hGr.out.size; have := HZ3.out; omega
      obtain ⟨wo, rfl⟩ : ∃ wo : World, wo = wr := ⟨_, rfl⟩
      by_cases hlt : k < m
      · obtain ⟨⟨dc, T⟩, hx⟩ : ∃ x, ms[k]? = some x := ⟨_, List.getElem?_eq_getElem (by rw [HML.out]; exact hlt)⟩
        obtain ⟨A', c', hA', hL⟩ := hPW.out.mems
        injection hA' with q1 q2 q3
        subst q1
        obtain ⟨b, off, y0, y1, y2, rfl, hPb, e0, e1, e2, e3, hT⟩ := hL k _ hx
        obtain ⟨t', A1, n1, c1, A2, n2, c2, rfl, rfl, rfl⟩ := hT.form
        have HWT := Lib.hid (show dc = true → WF m 2 T from by
          have h := (HMO.out _ (List.mem_of_getElem? hx)).1
          rw [HML.out] at h
          exact h)
        have hba := balloc (bref wo) (.cells #[.bool dc, .int .i64 t', .slice A1 n1 c1, .slice A2 n2 c2] 34)
        have HBX := Lib.hid (show (wo.alloc (.cells #[.bool dc, .int .i64 t', .slice A1 n1 c1, .slice A2 n2 c2] 34)).heap[wo.heap.size]? = some (.cells #[.bool dc, .int .i64 t', .slice A1 n1 c1, .slice A2 n2 c2] 34 (0, 0)) from alloc_at rfl)
        have HZX := Lib.hid (alloc_sz wo (.cells #[.bool dc, .int .i64 t', .slice A1 n1 c1, .slice A2 n2 c2] 34))
        have HTX := Lib.hid (hT.below hba)
        have HPX := Lib.hid (hPW.out.below (by omega) (by omega) hba)
        have HRX := Lib.hid (hRow.out.keep (W' := wo.alloc (.cells #[.bool dc, .int .i64 t', .slice A1 n1 c1, .slice A2 n2 c2] 34)) (fun q _ hq => hba.block q hq))
        have HGX := Lib.hid (grown_trans hGr.out (grown_below hba))
        have HOX := Lib.hid (hRow.out.own)
        clear hL hT hx hba hPW hRow hGr q2 q3
        go_upto_region 9 with fail
        generalize (wo.alloc (.cells #[.bool dc, .int .i64 t', .slice A1 n1 c1, .slice A2 n2 c2] 34)) = WX at *
        generalize hX : wo.heap.size = X at *
        have HX := Lib.hid hX
        clear e0 e1 e2 e3 hX
        have b0 : WX.cell? ⟨X, 0, none⟩ = some (.bool dc) := cell_of_row _ _ 0 _ _ (0, 0) HBX.out
        cases dc
        · obtain ⟨W6, rfl⟩ : ∃ W6 : World, W6 = WX := ⟨_, rfl⟩
          have HP6 := HPX
          have HR6 := HRX
          have HG6 := HGX
          have HL6 := Lib.hid (show ListT (fun b => g + 2 ≤ b ∧ u7.ownBlock ≠ some b) 2 W6 (.slice none 0 0) [] from ⟨none, 0, rfl, fun k T h => by simp at h⟩)
          have HT3 := Lib.hid (show ([] : List Tree).length ≤ 3 ∧ ∀ T ∈ ([] : List Tree), WF m 2 T from ⟨by simp, fun T h => absurd h (by simp)⟩)
          obtain ⟨us, hus, hul⟩ := HR6.out
          have hcn : us.length = tss.length := by have := hus.1; omega
          have HCSA := Lib.hid (hus.alloc (.cells #[.slice none 0 0] 30))
          have HNEW := Lib.hid (cell_one_new W6 (.slice none 0 0) 30)
          have HBA := Lib.hid (balloc (bref W6) (.cells #[.slice none 0 0] 30))
          have HSZ := Lib.hid (alloc_sz W6 (.cells #[.slice none 0 0] 30))
          have HUL := Lib.hid hul
          have HTL := Lib.hid hTs.out.1
          have hsz6 : cb + 1 ≤ W6.heap.size := by have := HG6.out.size; have := HZ3.out; omega
          have hsz7 := HG6.out.size
          have hz3x := HZ3.out
          obtain ⟨nl, hnl⟩ : ∃ nl, tss.length = nl := ⟨_, rfl⟩
          rw [hnl] at HCSA hcn
          have HNL := Lib.hid hnl
          clear hus hul hnl
          go_wp2_with (at_builtin; refine wpList_append_lies _ rfl _ _ 70 rfl W4.heap.size 30 i1 (.slice none 0 0) 1 24 Try.underlying70 hi1 hq0 hq1 hq2 rfl (by decide) _ nl us rfl (by exact HCSA.out) ⟨_, 0, none⟩ 1 1 [.slice none 0 0] rfl rfl (by exact HNEW.out) (by intro u hu; simp at hu; subst hu; rfl) (by omega) (by have := HTL.out; have := HNL.out; unfold maxLen; omega) (by have := HTL.out; have := HNL.out; omega) (by have := HSZ.out; omega) _ rfl ?_; intro g4 cap4 W7 hown4 hgrow4 hat4 hlt4)
          have hgB : (W6.alloc (.cells #[.slice none 0 0] 30)).grownBy W7 u7.ownBlock := ⟨hgrow4.os, hgrow4.tape, hgrow4.output, hgrow4.size, hgrow4.block⟩
          have hLW := HNL.out
          subst hLW
          have hrow5 := LRow.append (Q := fun b => g + 2 ≤ b) (ts := []) (WA := W6.alloc (.cells #[.slice none 0 0] 30)) (fun k u S e1 e2 => (HUL.out k u S e1 e2).below HBA.out) hcn (HL6.out.below HBA.out) hown4 hgB hat4
          have HROW5 := Lib.hid hrow5
          have HG7 := Lib.hid (gown (grown_trans HG6.out (grown_below HBA.out)) hgB (fun q hq => by have := (HR6.out.own q hq).1; have := HZ3.out; omega))
          have HP7 := Lib.hid ((HP6.out.below (by omega) (by omega) HBA.out).far (W' := W7) (fun q hq => hgB.block q (by have := HSZ.out; omega) (fun e => by have := (HR6.out.own q e.symm).1; omega)) (by omega) (by omega) (by omega) (grown_trans HGW3.out HG7.out))
          have HTS7 := Lib.hid (show (tss ++ [[]]).length = k + 1 ∧ (∀ u ∈ tss ++ [[]], u.length ≤ 3) ∧ (∀ u ∈ tss ++ [[]], ∀ T ∈ u, WF m 2 T) from by
            refine ⟨by rw [List.length_append, hTs.out.1]; rfl, fun u hu => ?_, fun u hu => ?_⟩
            · rcases List.mem_append.1 hu with h | h
              · exact hTs.out.2.1 u h
              · rw [List.mem_singleton.1 h]; exact HT3.out.1
            · rcases List.mem_append.1 hu with h | h
              · exact hTs.out.2.2 u h
              · rw [List.mem_singleton.1 h]; exact HT3.out.2)
          clear hown4 hgrow4 hat4 hlt4 hgB hrow5
          go_roundw
          case rel => exact ⟨k + 1, _, _, by omega, rfl, by go_num, HP7, HROW5, HTS7, HG7⟩
          case measure => simp [intOf]; omega
        · have b1 : WX.cell? ⟨X, 1, none⟩ = some (.int .i64 t') := cell_of_row _ _ 1 _ _ (0, 0) HBX.out
          have b2 : WX.cell? ⟨X, 2, none⟩ = some (.slice A1 n1 c1) := cell_of_row _ _ 2 _ _ (0, 0) HBX.out
          have b3 : WX.cell? ⟨X, 3, none⟩ = some (.slice A2 n2 c2) := cell_of_row _ _ 3 _ _ (0, 0) HBX.out
          have HNEW0 := Lib.hid (cell_three_new WX (.int .i64 t') (.slice A1 n1 c1) (.slice A2 n2 c2) 32)
          have HBA0 := Lib.hid (balloc (bref WX) (.cells #[.int .i64 t', .slice A1 n1 c1, .slice A2 n2 c2] 32))
          have HSZ0 := Lib.hid (alloc_sz WX (.cells #[.int .i64 t', .slice A1 n1 c1, .slice A2 n2 c2] 32))
          have hzx := HZX.out
          go_upto_region 11 with (go_loud (at_builtin; refine wpList_append_lies _ rfl _ _ 30 rfl (X + 1) 32 i3 (.agg #[.int .i64 0, .slice none 0 0, .slice none 0 0]) 3 56 Try.underlying30 hi3 hy0 hy1 hy2 rfl (by decide) _ 0 [] rfl (World.ownsRow_nil _ _ _ _) ⟨_, 0, none⟩ 1 1 [.int .i64 t', .slice A1 n1 c1, .slice A2 n2 c2] rfl rfl (by have h := HNEW0.out; rw [HZX.out] at h; exact h) (by intro u hu; simp at hu; rcases hu with rfl | rfl | rfl <;> rfl) (by omega) (by unfold maxLen; omega) (by omega) (by have := HSZ0.out; omega) _ rfl ?_; intro g4 cap4 W5 hown4 hgrow4 hat4 hlt4))
          have hgB : (WX.alloc (.cells #[.int .i64 t', .slice A1 n1 c1, .slice A2 n2 c2] 32)).grownBy W5 (Value.slice none 0 0).ownBlock := ⟨hgrow4.os, hgrow4.tape, hgrow4.output, hgrow4.size, hgrow4.block⟩
          have HGT5 := Lib.hid (GT.append (Q := fun b => (g + 2 ≤ b ∧ b < cb + 1) ∨ X ≤ b) (B := X + 1) (d := 2) (ts := []) (T := T) (WA := WX.alloc (.cells #[.int .i64 t', .slice A1 n1 c1, .slice A2 n2 c2] 32)) (lv := .slice none 0 0) (cs := []) (fun k T h => by simp at h) rfl ((HTX.out.below HBA0.out).imp (fun q _ hq => ⟨.inl hq, by simp [Value.ownBlock]⟩)) hown4 hgB hat4)
          have HGX5 := Lib.hid (show WX.grownBy W5 (some sb) from gown (grown_below HBA0.out) hgB (fun q hq => by simp [Value.ownBlock] at hq))
          have HT5 := Lib.hid (show TapeOk W5 sb from HPX.out.tape.keepLow (fun q hq => (hgB.block q (by have := HSZ0.out; omega) (by simp [Value.ownBlock])).trans (HBA0.out.block q (by omega))))
          clear hown4 hgrow4 hat4 hlt4 hgB b0 b1 b2 b3 HNEW0 HSZ0 HBA0
          go_wp2_with fail
          refine (TN_run _ sb _ (by omega) (by omega) HT5.out).mono ?_
          rintro e W6 ⟨r, hr2, hr3, rfl, hs6, hg6⟩
          have HGX6 := Lib.hid (grown_trans HGX5.out hg6)
          have HT6 := Lib.hid hs6
          have HGT6 := Lib.hid (HGT5.out.keep (W' := W6) (fun q hq hl => hg6.block q hl (by simp only [ne_eq, Option.some.injEq]; rcases hq with (hq | hq) | hq <;> omega)))
          obtain ⟨i0, rfl⟩ : ∃ i0 : Nat, r = (i0 : Int) := ⟨r.toNat, by omega⟩
          have HWF0 := Lib.hid (show ∀ U ∈ ([] ++ [T] : List Tree), WF m 2 U from fun U hU => by rw [List.mem_singleton.1 hU]; first | exact HWT.out rfl | exact HWT.out trivial)
          clear hs6 hg6 HT5 HGX5 HGT5
          go_wp2_with fail
          go_loopw [10, 11] (fun u t W => ∃ (i : Nat) (xv : Value) (ts : List Tree), u = xv ∧ t = .int .i64 (i : Int) ∧ Hid (ts.length + i ≤ 3) ∧ Hid (GT (fun b => (g + 2 ≤ b ∧ b < cb + 1) ∨ X ≤ b) (X + 1) 2 W xv ts) ∧ Hid (∀ U ∈ ts, WF m 2 U) ∧ Hid (TapeOk W sb) ∧ Hid (WX.grownBy W (some sb))) (fun _ t _ => (intOf t).toNat)
          case atStart => exact ⟨i0, _, [] ++ [T], rfl, rfl, Lib.hid (by simp; omega), HGT6, HWF0, HT6, HGX6⟩
          case round =>
            obtain ⟨i, xv, ts, hxv, rfl, hcnt, hGT, hwf, hTp, hGx⟩ := hrel
            subst hxv
            have hzw : X + 1 ≤ wr.heap.size := by have := hGx.out.size; have := HZX.out; omega
            have hbx := (hGx.out.block X (by have := HZX.out; omega) (by simp; omega)).trans HBX.out
            have hpr := HPX.out.grow (by omega) (by omega) hTp.out hGx.out
            have c0 : wr.cell? ⟨cb, 0, none⟩ = some (.slice (some ⟨b, off, none⟩) m cv) := cell_of_row _ _ 0 _ _ (0, 0) hpr.box
            have HPR := Lib.hid hpr
            have HTR := Lib.hid (HTX.out.keep (w' := wr) (fun q hq hP => hGx.out.block q hq (by have := hP.1; simp; omega)))
            have HOW := Lib.hid (hGT.out.own)
            by_cases hi0 : 0 < i
            · have b1 : wr.cell? ⟨X, 1, none⟩ = some (.int .i64 t') := cell_of_row _ _ 1 _ _ (0, 0) hbx
              have b2 : wr.cell? ⟨X, 2, none⟩ = some (.slice A1 n1 c1) := cell_of_row _ _ 2 _ _ (0, 0) hbx
              have b3 : wr.cell? ⟨X, 3, none⟩ = some (.slice A2 n2 c2) := cell_of_row _ _ 3 _ _ (0, 0) hbx
              clear hbx hpr
              obtain ⟨wp, rfl⟩ : ∃ wp : World, wp = wr := ⟨_, rfl⟩
              go_wp2_with fail
              refine (near_run (fun q => g + 2 ≤ q ∧ q < cb + 1) sb m hm1 (by omega) T _ _ _ wp hTp.out (by rintro q ⟨h1, h2⟩; omega) HTR.out (by first | exact HWT.out rfl | exact HWT.out trivial)).mono ?_
              rintro e Wn ⟨z0, z1, z2, U, rfl, hU, hWU, hTn, hGn⟩
              obtain ⟨t2, B1, k1, d1, B2, k2, d2, rfl, rfl, rfl⟩ := hU.form
              have hzn := hGn.size
              have hGTn := hGT.out.keep (W' := Wn) (fun q hq hl => hGn.block q hl (by simp only [ne_eq, Option.some.injEq]; rcases hq with (hq | hq) | hq <;> omega))
              obtain ⟨cs, hcs, hcl⟩ := hGTn
              have hcn : cs.length = ts.length * 3 := by have := hcs.1; omega
              obtain ⟨nt, hnt⟩ : ∃ nt, ts.length = nt := ⟨_, rfl⟩
              have HCSA := Lib.hid (hcs.alloc (.cells #[.int .i64 t2, .slice B1 k1 d1, .slice B2 k2 d2] 32))
              rw [hnt] at HCSA
              have HNT := Lib.hid hnt
              have HNEW := Lib.hid (cell_three_new Wn (.int .i64 t2) (.slice B1 k1 d1) (.slice B2 k2 d2) 32)
              have HBA := Lib.hid (balloc (bref Wn) (.cells #[.int .i64 t2, .slice B1 k1 d1, .slice B2 k2 d2] 32))
              have HSZ := Lib.hid (alloc_sz Wn (.cells #[.int .i64 t2, .slice B1 k1 d1, .slice B2 k2 d2] 32))
              have HCL := Lib.hid hcl
              have HGN := Lib.hid (grown_trans hGx.out hGn)
              have HUU := Lib.hid (show TAt (fun q => ((g + 2 ≤ q ∧ q < cb + 1) ∨ X ≤ q) ∧ u10.ownBlock ≠ some q) 2 Wn (.int .i64 t2) (.slice B1 k1 d1) (.slice B2 k2 d2) U from
                hU.imp (fun q _ hq => by
                  rcases hq with hq | hq
                  · exact ⟨.inl hq, fun e => by have := (HOW.out q e).1; omega⟩
                  · exact ⟨.inr (by omega), fun e => by have := (HOW.out q e).2; omega⟩))
              have HWF1 := Lib.hid (show ∀ V ∈ ts ++ [U], WF m 2 V from fun V hV => by
                rcases List.mem_append.1 hV with h | h
                · exact hwf.out V h
                · rw [List.mem_singleton.1 h]; exact hWU)
              have HTN := Lib.hid hTn
              have hcx := hcnt.out
              rw [hnt] at hcx
              clear hcs hcl hU hTn hGn hnt b1 b2 b3 c0
              go_wp2_with (at_builtin; refine wpList_append_lies _ rfl _ _ 30 rfl (X + 1) 32 i3 (.agg #[.int .i64 0, .slice none 0 0, .slice none 0 0]) 3 56 Try.underlying30 hi3 hy0 hy1 hy2 rfl (by decide) _ nt cs rfl (by exact HCSA.out) ⟨_, 0, none⟩ 1 1 [.int .i64 t2, .slice B1 k1 d1, .slice B2 k2 d2] rfl rfl (by exact HNEW.out) (by intro u hu; simp at hu; rcases hu with rfl | rfl | rfl <;> rfl) (by omega) (by unfold maxLen; omega) (by omega) (by have := HSZ.out; omega) _ rfl ?_; intro g4 cap4 W5 hown4 hgrow4 hat4 hlt4)
              have hgB : (Wn.alloc (.cells #[.int .i64 t2, .slice B1 k1 d1, .slice B2 k2 d2] 32)).grownBy W5 u10.ownBlock := ⟨hgrow4.os, hgrow4.tape, hgrow4.output, hgrow4.size, hgrow4.block⟩
              have hNT := HNT.out
              subst hNT
              have HGT5 := Lib.hid (GT.append (Q := fun q => (g + 2 ≤ q ∧ q < cb + 1) ∨ X ≤ q) (B := X + 1) (d := 2) (ts := ts) (T := U) (WA := Wn.alloc (.cells #[.int .i64 t2, .slice B1 k1 d1, .slice B2 k2 d2] 32)) (fun k T h => by
                obtain ⟨x0, x1, x2, f0, f1, f2, f3⟩ := HCL.out k T h
                exact ⟨x0, x1, x2, f0, f1, f2, f3.below HBA.out⟩) hcn (HUU.out.below HBA.out) hown4 hgB hat4)
              have HGX5 := Lib.hid (show WX.grownBy W5 (some sb) from gown (grown_trans HGN.out (grown_below HBA.out)) hgB (fun q hq => by have := (HOW.out q hq).1; have := HZX.out; omega))
              have HT5 := Lib.hid (show TapeOk W5 sb from HTN.out.keepLow (fun q hq => (hgB.block q (by have := HSZ.out; omega) (fun e => by have := (HOW.out q e.symm).1; omega)).trans (HBA.out.block q (by omega))))
              have HC5 := Lib.hid (show (ts ++ [U]).length + (i - 1) ≤ 3 from by rw [List.length_append]; simp; omega)
              clear hown4 hgrow4 hat4 hlt4 hgB
              go_wp2_with fail
              go_roundw
              case rel => exact ⟨i - 1, _, ts ++ [U], rfl, by go_num, HC5, HGT5, HWF1, HT5, HGX5⟩
              case measure => simp [intOf]; omega
            · obtain rfl : i = 0 := by omega
              obtain ⟨W6, rfl⟩ : ∃ W6 : World, W6 = wr := ⟨_, rfl⟩
              have HP6 := HPR
              have HG6 := Lib.hid (grown_trans HGX.out hGx.out)
              have HR6 := Lib.hid (HRX.out.keep (W' := W6) (fun q hq hl => hGx.out.block q hl (by simp only [ne_eq, Option.some.injEq]; rcases hq with hq | hq <;> omega)))
              have HL6 := Lib.hid (show ListT (fun b => g + 2 ≤ b ∧ u7.ownBlock ≠ some b) 2 W6 u10 ts from hGT.out.list (fun q hq => by
                rcases hq with (hq | hq) | hq
                · exact ⟨by omega, fun e => by have := (HOX.out q e).1; have := HZ3.out; omega⟩
                · exact ⟨by omega, fun e => by have := (HOX.out q e).2; omega⟩
                · exact ⟨by omega, fun e => by have := (HOX.out q e).2; omega⟩))
              have HT3 := Lib.hid (show ts.length ≤ 3 ∧ ∀ T ∈ ts, WF m 2 T from ⟨by have := hcnt.out; omega, hwf.out⟩)
              clear hGT hbx hpr c0
              obtain ⟨us, hus, hul⟩ := HR6.out
              have hcn : us.length = tss.length := by have := hus.1; omega
              obtain ⟨Ax, cx, rfl⟩ := HL6.out.slice
              obtain ⟨nt, hnt⟩ : ∃ nt, ts.length = nt := ⟨_, rfl⟩
              rw [hnt] at HL6 ⊢
              have HNT := Lib.hid hnt
              clear hnt
              have HCSA := Lib.hid (hus.alloc (.cells #[.slice Ax nt cx] 30))
              have HNEW := Lib.hid (cell_one_new W6 (.slice Ax nt cx) 30)
              have HBA := Lib.hid (balloc (bref W6) (.cells #[.slice Ax nt cx] 30))
              have HSZ := Lib.hid (alloc_sz W6 (.cells #[.slice Ax nt cx] 30))
              have HUL := Lib.hid hul
              have HTL := Lib.hid hTs.out.1
              have hsz6 : cb + 1 ≤ W6.heap.size := by have := HG6.out.size; have := HZ3.out; omega
              have hsz7 := HG6.out.size
              have hz3x := HZ3.out
              obtain ⟨nl, hnl⟩ : ∃ nl, tss.length = nl := ⟨_, rfl⟩
              rw [hnl] at HCSA hcn
              have HNL := Lib.hid hnl
              clear hus hul hnl
              go_wp2_with (at_builtin; refine wpList_append_lies _ rfl _ _ 70 rfl W4.heap.size 30 i1 (.slice none 0 0) 1 24 Try.underlying70 hi1 hq0 hq1 hq2 rfl (by decide) _ nl us rfl (by exact HCSA.out) ⟨_, 0, none⟩ 1 1 [.slice Ax nt cx] rfl rfl (by exact HNEW.out) (by intro u hu; simp at hu; subst hu; rfl) (by omega) (by have := HTL.out; have := HNL.out; unfold maxLen; omega) (by have := HTL.out; have := HNL.out; omega) (by have := HSZ.out; omega) _ rfl ?_; intro g4 cap4 W7 hown4 hgrow4 hat4 hlt4)
              have hgB : (W6.alloc (.cells #[.slice Ax nt cx] 30)).grownBy W7 u7.ownBlock := ⟨hgrow4.os, hgrow4.tape, hgrow4.output, hgrow4.size, hgrow4.block⟩
              have hLW := HNL.out
              subst hLW
              have hNT := HNT.out
              subst hNT
              have hrow5 := LRow.append (Q := fun b => g + 2 ≤ b) (ts := ts) (WA := W6.alloc (.cells #[.slice Ax ts.length cx] 30)) (fun k u S e1 e2 => (HUL.out k u S e1 e2).below HBA.out) hcn (HL6.out.below HBA.out) hown4 hgB hat4
              have HROW5 := Lib.hid hrow5
              have HG7 := Lib.hid (gown (grown_trans HG6.out (grown_below HBA.out)) hgB (fun q hq => by have := (HR6.out.own q hq).1; have := HZ3.out; omega))
              have HP7 := Lib.hid ((HP6.out.below (by omega) (by omega) HBA.out).far (W' := W7) (fun q hq => hgB.block q (by have := HSZ.out; omega) (fun e => by have := (HR6.out.own q e.symm).1; omega)) (by omega) (by omega) (by omega) (grown_trans HGW3.out HG7.out))
              have HTS7 := Lib.hid (show (tss ++ [ts]).length = k + 1 ∧ (∀ u ∈ tss ++ [ts], u.length ≤ 3) ∧ (∀ u ∈ tss ++ [ts], ∀ T ∈ u, WF m 2 T) from by
                refine ⟨by rw [List.length_append, hTs.out.1]; rfl, fun u hu => ?_, fun u hu => ?_⟩
                · rcases List.mem_append.1 hu with h | h
                  · exact hTs.out.2.1 u h
                  · rw [List.mem_singleton.1 h]; exact HT3.out.1
                · rcases List.mem_append.1 hu with h | h
                  · exact hTs.out.2.2 u h
                  · rw [List.mem_singleton.1 h]; exact HT3.out.2)
              clear hown4 hgrow4 hat4 hlt4 hgB hrow5
              go_roundw
              case rel => exact ⟨k + 1, _, _, by omega, rfl, by go_num, HP7, HROW5, HTS7, HG7⟩
              case measure => simp [intOf]; omega
      · have hkm : m = k := by omega
        subst hkm
        have HLL := Lib.hid (hRow.out.list (P := fun b => g + 2 ≤ b) (fun b h => by
          rcases h with h | h
          · exact h
          · have := HZ3.out; show g + 2 ≤ b; omega))
        have HPW := hPW
        have HGR := hGr
        clear hPW hRow hGr c0
        have hg0 : g + 2 ≤ wo.heap.size := by omega
        go_wp2_with fail
        refine (low_run (fun b => g + 2 ≤ b) tss m _ wo hTs.out.1 (by omega) hTs.out.2.1 hTs.out.2.2 HLL.out).mono ?_
        rintro e Wl ⟨vl, ls, rfl, hml, hjl, hbl⟩
        obtain ⟨Al, cl, rfl⟩ := hml.slice
        rw [hjl.1]
        have hml2 := hml
        rw [hjl.1] at hml2
        have hzl := hbl.size
        have hba := balloc (bref Wl) (.cells #[.slice Al m cl] 27)
        have HJL := Lib.hid hjl
        have HBL := Lib.hid (bstep hbl hba)
        have HKL := Lib.hid (show (Wl.alloc (.cells #[.slice Al m cl] 27)).heap[Wl.heap.size]? = some (.cells #[.slice Al m cl] 27 (0, 0)) from alloc_at rfl)
        have HML2 := Lib.hid ((hml2.both (w' := Wl) (Q := fun b => g + 2 ≤ b) (fun _ _ _ => rfl) (fun q _ hq => by rcases hq with hq | hq <;> omega)).below hba)
        have HZL := Lib.hid (alloc_sz Wl (.cells #[.slice Al m cl] 27))
        clear hml hml2 hjl hbl hba
        go_upto_region 18 with fail
        generalize (Wl.alloc (.cells #[.slice Al m cl] 27)) = WL at *
        generalize Wl.heap.size = lb at *
        go_wp2_with fail
        refine (high_run (fun b => g + 2 ≤ b) tss m _ WL hTs.out.1 (by omega) hTs.out.2.1 hTs.out.2.2 (HLL.out.keep (fun q hq _ => HBL.out.block q hq))).mono ?_
        rintro e Wh ⟨vh, hs2, rfl, hmh, hjh, hbh⟩
        obtain ⟨Ah, ch, rfl⟩ := hmh.slice
        rw [hjh.1]
        have hmh2 := hmh
        rw [hjh.1] at hmh2
        have hzh := hbh.size
        have hba := balloc (bref Wh) (.cells #[.slice Ah m ch] 27)
        have HJH := Lib.hid hjh
        have HBH := Lib.hid (bstep hbh hba)
        have HKH := Lib.hid (show (Wh.alloc (.cells #[.slice Ah m ch] 27)).heap[Wh.heap.size]? = some (.cells #[.slice Ah m ch] 27 (0, 0)) from alloc_at rfl)
        have HMH2 := Lib.hid ((hmh2.both (w' := Wh) (Q := fun b => g + 2 ≤ b) (fun _ _ _ => rfl) (fun q _ hq => by have := HZL.out; rcases hq with hq | hq <;> omega)).below hba)
        clear hmh hmh2 hjh hbh hba
        go_upto_region 19 with fail
        generalize (Wh.alloc (.cells #[.slice Ah m ch] 27)) = WH at *
        have hp8 := HPW.out.grow (by omega) (by omega) (HPW.out.tape.below (bstep HBL.out HBH.out)) (grown_below (bstep HBL.out HBH.out))
        have er0 := hp8.r0
        have er1 := hp8.r1
        have d0 : WH.cell? ⟨lb, 0, none⟩ = some (.slice Al m cl) := cell_of_row _ _ 0 _ _ (0, 0) ((HBH.out.block lb (by have := HZL.out; omega)).trans HKL.out)
        have d1 : WH.cell? ⟨Wh.heap.size, 0, none⟩ = some (.slice Ah m ch) := cell_of_row _ _ 0 _ _ (0, 0) HKH.out
        have z0 : WH.cell? ⟨g, 0, none⟩ = some (.slice none 0 0) := cell_of_row _ _ 0 _ _ (0, 0) er0
        have z1 : WH.cell? ⟨g + 1, 0, none⟩ = some (.slice none 0 0) := cell_of_row _ _ 0 _ _ (0, 0) er1
        have zf0 : WH.frozen? ⟨g, 0, none⟩ = false := by simp [World.frozen?, er0]
        have zf1 : WH.frozen? ⟨g + 1, 0, none⟩ = false := by simp [World.frozen?, er1]
        have HP8 := Lib.hid hp8
        have hlg : g + 2 ≤ lb := by omega
        have hhg : g + 2 ≤ Wh.heap.size := by have := HZL.out; omega
        have HMLH := Lib.hid (HML2.out.below HBH.out)
        clear hp8
        go_wp2_with fail
        go_region
        have HG8 := Lib.hid (show w.grownBy (((WH.setCell ⟨g, 0, none⟩ (.slice Al m cl)).setCell ⟨g + 1, 0, none⟩ (.slice Ah m ch)).drew) (some sb) from grown_trans (gset (gset (HP8.out.gr) (p := ⟨g, 0, none⟩) (by show w.heap.size ≤ g; rw [HG.out]; exact Nat.le_refl _) _) (p := ⟨g + 1, 0, none⟩) (by show w.heap.size ≤ g + 1; rw [HG.out]; omega) _) (grown_below (bdrew (bref _))))
        have HH8 := Lib.hid (show ∀ q, q ≠ g → q ≠ g + 1 → (((WH.setCell ⟨g, 0, none⟩ (.slice Al m cl)).setCell ⟨g + 1, 0, none⟩ (.slice Ah m ch)).drew).heap[q]? = WH.heap[q]? from fun q h1 h2 => (Below.heap_setCell _ _ _ q h2).trans (Below.heap_setCell _ _ _ q h1))
        have hs0 : (((WH.setCell ⟨g, 0, none⟩ (.slice Al m cl)).setCell ⟨g + 1, 0, none⟩ (.slice Ah m ch)).drew).heap[g]? = some (.cells #[(.slice Al m cl)] 27 (0, 0)) := by
          have e1 : (WH.setCell ⟨g, 0, none⟩ (.slice Al m cl)).heap[g]? = some (.cells #[(.slice Al m cl)] 27 (0, 0)) := by simp [World.setCell, Array.getElem?_modify, er0]
          exact (Below.heap_setCell _ _ _ g (by show g ≠ g + 1; omega)).trans e1
        have hs1 : (((WH.setCell ⟨g, 0, none⟩ (.slice Al m cl)).setCell ⟨g + 1, 0, none⟩ (.slice Ah m ch)).drew).heap[g + 1]? = some (.cells #[(.slice Ah m ch)] 27 (0, 0)) := by
          have e1 : (WH.setCell ⟨g, 0, none⟩ (.slice Al m cl)).heap[g + 1]? = some (.cells #[.slice none 0 0] 27 (0, 0)) := (Below.heap_setCell _ _ _ (g + 1) (by show g + 1 ≠ g; omega)).trans er1
          show ((WH.setCell ⟨g, 0, none⟩ (.slice Al m cl)).setCell ⟨g + 1, 0, none⟩ (.slice Ah m ch)).heap[g + 1]? = _
          simp [World.setCell, Array.getElem?_modify, er0, er1]
        have HTP8 := Lib.hid (show TapeOk (((WH.setCell ⟨g, 0, none⟩ (.slice Al m cl)).setCell ⟨g + 1, 0, none⟩ (.slice Ah m ch)).drew) sb from (TapeOk.setCell (TapeOk.setCell (HP8.out.tape) (p := ⟨g, 0, none⟩) (by show sb < g; omega) _) (p := ⟨g + 1, 0, none⟩) (by show sb < g + 1; omega) _).drew)
        generalize (((WH.setCell ⟨g, 0, none⟩ (.slice Al m cl)).setCell ⟨g + 1, 0, none⟩ (.slice Ah m ch)).drew) = W8 at *
        have y0 : W8.cell? ⟨g, 0, none⟩ = some ((.slice Al m cl)) := cell_of_row _ _ 0 _ _ (0, 0) hs0
        have y1 : W8.cell? ⟨g + 1, 0, none⟩ = some ((.slice Ah m ch)) := cell_of_row _ _ 0 _ _ (0, 0) hs1
        have HY0 := Lib.hid y0
        have HY1 := Lib.hid y1
        clear hs0 hs1 y0 y1
        go_wp2_with fail
        have y0 := HY0.out
        have y1 := HY1.out
        refine bodyPost_ret (v := .tuple #[.agg #[.slice Al m cl], .agg #[.slice Ah m ch]]) ?_ rfl ⟨_, _, ls, hs2, rfl, PairM.joined (by omega) hTs.out.1 HJL.out HJH.out, by rw [HJL.out.1]; omega, ?_, ?_, HTP8.out, HG8.out⟩
        · simp [results, Try.results14, go_sem, y0, y1]
        · have hG := HG.out
          exact HMLH.out.both (w' := W8) (fun q hq hP => HH8.out q (by have := hP; omega) (by have := hP; omega)) (fun q _ hP => by show w.heap.size ≤ q; have := hP; omega)
        · have hG := HG.out
          exact HMH2.out.both (w' := W8) (fun q hq hP => HH8.out q (by have := hP; omega) (by have := hP; omega)) (fun q _ hP => by show w.heap.size ≤ q; have := hP; omega)

end Go.Proofs.Ytnfdacfhhkahhaa

namespace Go.Proofs.Ytnfdacfhhkahhaa
set_option linter.unusedVariables false
set_option linter.unusedSimpArgs false
open Go.RowKit

/-- A pair in two boxes, and the tape. -/
structure PMade (w : World) (g : Nat) (vl vh : Value) (ls hs : List Mem) (W : World) : Prop where
  tape : TapeOk W w.heap.size
  l : W.heap[g]? = some (.cells #[vl] 27 (0, 0))
  h : W.heap[g + 1]? = some (.cells #[vh] 27 (0, 0))
  ml : MemsAt (fun b => w.heap.size < b) 3 W vl ls
  mh : MemsAt (fun b => w.heap.size < b) 3 W vh hs
  low : w.heap.size < g
  below : Below w.heap.size w W

theorem PMade.lt {w W : World} {g : Nat} {vl vh : Value} {ls hs : List Mem} (h : PMade w g vl vh ls hs W) : g + 1 < W.heap.size := (Array.getElem?_eq_some_iff.1 h.h).1

theorem PMade.cl {w W : World} {g : Nat} {vl vh : Value} {ls hs : List Mem} (h : PMade w g vl vh ls hs W) : W.cell? ⟨g, 0, none⟩ = some vl := cell_of_row _ _ 0 _ _ (0, 0) h.l

theorem PMade.ch {w W : World} {g : Nat} {vl vh : Value} {ls hs : List Mem} (h : PMade w g vl vh ls hs W) : W.cell? ⟨g + 1, 0, none⟩ = some vh := cell_of_row _ _ 0 _ _ (0, 0) h.h

theorem PMade.bel {w W W' : World} {g : Nat} {vl vh : Value} {ls hs : List Mem} (h : PMade w g vl vh ls hs W) (hb : Below W.heap.size W W') : PMade w g vl vh ls hs W' :=
  ⟨h.tape.below hb, (hb.block _ (by have := h.lt; omega)).trans h.l, (hb.block _ h.lt).trans h.h, h.ml.below hb, h.mh.below hb, h.low, bstep h.below hb⟩

theorem PMade.grown {w W W' : World} {g : Nat} {vl vh : Value} {ls hs : List Mem} (h : PMade w g vl vh ls hs W) (hs2 : TapeOk W' w.heap.size) (hg : W.grownBy W' (some w.heap.size)) : PMade w g vl vh ls hs W' :=
  ⟨hs2, (hg.block _ (by have := h.lt; omega) (by have := h.low; simp; omega)).trans h.l, (hg.block _ h.lt (by have := h.low; simp; omega)).trans h.h,
    h.ml.both (fun q hq hP => hg.block q hq (by simp; omega)) (fun _ _ h => h), h.mh.both (fun q hq hP => hg.block q hq (by simp; omega)) (fun _ _ h => h), h.low, bgrownC h.below hg (Nat.le_refl _)⟩

end Go.Proofs.Ytnfdacfhhkahhaa

namespace Go.Proofs.Ytnfdacfhhkahhaa
open Go.RowKit

theorem pmK {w W W' : World} {g : Nat} {vl vh : Value} {ls hs : List Mem} (h : W.cell? ⟨g, 0, none⟩ = some vl ∧ W.cell? ⟨g + 1, 0, none⟩ = some vh ∧ PMade w g vl vh ls hs W) (hb : Below W.heap.size W W') : W'.cell? ⟨g, 0, none⟩ = some vl ∧ W'.cell? ⟨g + 1, 0, none⟩ = some vh ∧ PMade w g vl vh ls hs W' := ⟨(h.2.2.bel hb).cl, (h.2.2.bel hb).ch, h.2.2.bel hb⟩

theorem pmG {w W W' : World} {g : Nat} {vl vh : Value} {ls hs : List Mem} (h : W.cell? ⟨g, 0, none⟩ = some vl ∧ W.cell? ⟨g + 1, 0, none⟩ = some vh ∧ PMade w g vl vh ls hs W) (h2 : TapeOk W' w.heap.size) (h3 : W.grownBy W' (some w.heap.size)) : W'.cell? ⟨g, 0, none⟩ = some vl ∧ W'.cell? ⟨g + 1, 0, none⟩ = some vh ∧ PMade w g vl vh ls hs W' := ⟨(h.2.2.grown h2 h3).cl, (h.2.2.grown h2 h3).ch, h.2.2.grown h2 h3⟩

theorem pmS {w W : World} {g : Nat} {vl vh : Value} {ls hs : List Mem} (h : W.cell? ⟨g, 0, none⟩ = some vl ∧ W.cell? ⟨g + 1, 0, none⟩ = some vh ∧ PMade w g vl vh ls hs W) : PMade w g vl vh ls hs W := h.2.2

end Go.Proofs.Ytnfdacfhhkahhaa

namespace Go.Proofs.Ytnfdacfhhkahhaa.D3
set_option linter.unusedVariables false
set_option linter.unusedSimpArgs false
open Go.RowKit


structure SMade (w : World) (sb g : Nat) (v : Value) (ms : List Mem) (W : World) : Prop where
  tape : TapeOk W sb
  out : W.heap[g]? = some (.cells #[v] 27 (0, 0))
  mems : MemsAt (fun b => sb < b) 3 W v ms
  low : sb < g
  gr : w.grownBy W (some sb)

theorem SMade.lt {w W : World} {sb g : Nat} {v : Value} {ms : List Mem} (h : SMade w sb g v ms W) : g < W.heap.size := by
  rcases Nat.lt_or_ge g W.heap.size with h1 | h1
  · exact h1
  · have := h.out; rw [Array.getElem?_eq_none h1] at this; cases this

theorem SMade.cell {w W : World} {sb g : Nat} {v : Value} {ms : List Mem} (h : SMade w sb g v ms W) : W.cell? ⟨g, 0, none⟩ = some v := cell_of_row _ _ 0 _ _ (0, 0) h.out

theorem SMade.bel {w W W' : World} {sb g : Nat} {v : Value} {ms : List Mem} (h : SMade w sb g v ms W) (hb : Below W.heap.size W W') : SMade w sb g v ms W' :=
  ⟨h.tape.below hb, (hb.block _ h.lt).trans h.out, h.mems.below hb, h.low, grown_trans h.gr (grown_below hb)⟩

theorem SMade.grown {w W W' : World} {sb g : Nat} {v : Value} {ms : List Mem} (h : SMade w sb g v ms W) (hs : TapeOk W' sb) (hg : W.grownBy W' (some sb)) : SMade w sb g v ms W' :=
  ⟨hs, (hg.block _ h.lt (by have := h.low; simp; omega)).trans h.out, h.mems.both (fun q hq hP => hg.block q hq (by simp; omega)) (fun _ _ h => h), h.low, grown_trans h.gr hg⟩

theorem SMade.keeps {w W : World} {sb g : Nat} {v : Value} {ms : List Mem} (h : SMade w sb g v ms W) : W.cell? ⟨g, 0, none⟩ = some v ∧ SMade w sb g v ms W := ⟨h.cell, h⟩

theorem keepZ {w W W' : World} {sb g : Nat} {v : Value} {ms : List Mem} (h : W.cell? ⟨g, 0, none⟩ = some v ∧ SMade w sb g v ms W) (hb : Below W.heap.size W W') : W'.cell? ⟨g, 0, none⟩ = some v ∧ SMade w sb g v ms W' := (h.2.bel hb).keeps

theorem growZ {w W W' : World} {sb g : Nat} {v : Value} {ms : List Mem} (h : W.cell? ⟨g, 0, none⟩ = some v ∧ SMade w sb g v ms W) (hs : TapeOk W' sb) (hg : W.grownBy W' (some sb)) : W'.cell? ⟨g, 0, none⟩ = some v ∧ SMade w sb g v ms W' := (h.2.grown hs hg).keeps

theorem tapeZ {w W : World} {sb g : Nat} {v : Value} {ms : List Mem} (h : W.cell? ⟨g, 0, none⟩ = some v ∧ SMade w sb g v ms W) : TapeOk W sb := h.2.tape

theorem memsZ {w W : World} {sb g : Nat} {v : Value} {ms : List Mem} (h : W.cell? ⟨g, 0, none⟩ = some v ∧ SMade w sb g v ms W) : MemsAt (fun b => sb < b) 3 W v ms := h.2.mems


theorem or_mulN {L : Nat} (s q a : Nat) (hL : L ≤ 10) (hs : s < 2 ^ L) (hq : q < 2 ^ L) (ha : a < 2) : ∃ r : Nat, r < 2 ^ L ∧ bits .or .i64 (s : Int) (IntKind.i64.wrap ((q : Int) * (a : Int))) = (r : Int) := by
  have h10 : 2 ^ L ≤ 2 ^ 10 := Nat.pow_le_pow_right (by omega) hL
  rcases a with _ | a
  · refine ⟨s ||| 0, by simpa using hs, ?_⟩
    rw [show IntKind.i64.wrap ((q : Int) * ((0 : Nat) : Int)) = ((0 : Nat) : Int) by simp; rfl]
    exact i64_or_nat s 0 (by omega) (by omega)
  · obtain rfl : a = 0 := by omega
    refine ⟨s ||| q, Nat.or_lt_two_pow hs hq, ?_⟩
    rw [show IntKind.i64.wrap ((q : Int) * ((0 + 1 : Nat) : Int)) = ((q : Nat) : Int) by rw [IntWalk.i64_in _ (by push_cast; omega)]; push_cast; omega]
    exact i64_or_nat s q (by omega) (by omega)

set_option maxRecDepth 100000 in
set_option maxHeartbeats 4000000 in
theorem mkSetN_run (sb : Nat) (ms : List Mem) (v : Value) (w : World) (hl0 : 1 ≤ ms.length) (hl : ms.length ≤ 10) (hs : TapeOk w sb) (h : MemsAt (fun b => sb < b) 3 w v ms) :
    Calls Try.prog 15 #[.pointer (some ⟨sb, 0, none⟩), .agg #[v]] w fun e w' => ∃ r : Nat, e = .returned (.int .i64 (r : Int)) ∧ r < 2 ^ ms.length ∧ TapeOk w' sb ∧ w.grownBy w' (some sb) := by
  obtain ⟨A, c, rfl⟩ := h.slice
  obtain ⟨L, hL⟩ : ∃ L, ms.length = L := ⟨_, rfl⟩
  rw [hL] at h hl0 hl ⊢
  have hba := balloc (bref w) (.cells #[.slice A L c] 27)
  have HM := Lib.hid (show SMade w sb w.heap.size (.slice A L c) ms (w.alloc (.cells #[.slice A L c] 27)) from ⟨hs.alloc _, alloc_at rfl, h.below hba, hs.lt, grown_below hba⟩)
  have HL := Lib.hid hL
  have hpL : 2 ^ L ≤ 2 ^ 10 := Nat.pow_le_pow_right (by omega) hl
  have hpp : 1 ≤ 2 ^ L := Nat.one_le_pow _ _ (by omega)
  obtain ⟨N, hN⟩ : ∃ N, 2 ^ L = N := ⟨_, rfl⟩
  have HN := Lib.hid hN
  rw [hN] at hpL hpp ⊢
  clear hN
  clear h hs hba hL
  go_enter Try.func15, Try.ntmps15
  go_upto_region 1 with fail
  generalize w.alloc (.cells #[.slice A L c] 27) = W1 at *
  generalize w.heap.size = g at *
  have c0 := HM.out.cell
  go_upto_region 3 with fail
  have hp5 : ∀ j, j < 5 → (W1.alloc (.cells #[.int .i64 0, .int .i64 1, .int .i64 1, .int .i64 2, .int .i64 3] 3)).cell? ⟨W1.heap.size, j, none⟩ = some (.int .i64 (([0, 1, 1, 2, 3] : List Int).getD j 0)) := by
    intro j hj
    rw [cell_of_row _ _ j _ _ (0, 0) (heap_alloc_new _ _)]
    match j, hj with
    | 0, _ | 1, _ | 2, _ | 3, _ | 4, _ => rfl
  have HP5 := Lib.hid hp5
  have hsb : W1.heap.size ≠ sb := by have := HM.out.tape.lt; omega
  clear hp5 c0
  go_wp2_with fail
  refine (TPick_run _ sb W1.heap.size [0, 1, 1, 2, 3] 5 rfl (by omega) (by omega) HP5.out hsb (HM.out.tape.alloc _)).mono ?_
  rintro e W2 ⟨j, hj, rfl, hs1, hg1⟩
  obtain ⟨q, hq, hq3⟩ : ∃ q : Nat, ([0, 1, 1, 2, 3] : List Int).getD j 0 = (q : Int) ∧ q ≤ 3 := by
    match j, hj with
    | 0, _ => exact ⟨0, rfl, by omega⟩
    | 1, _ => exact ⟨1, rfl, by omega⟩
    | 2, _ => exact ⟨1, rfl, by omega⟩
    | 3, _ => exact ⟨2, rfl, by omega⟩
    | 4, _ => exact ⟨3, rfl, by omega⟩
  rw [hq]
  have H2 := Lib.hid ((HM.out.bel (balloc (bref W1) (.cells #[.int .i64 0, .int .i64 1, .int .i64 1, .int .i64 2, .int .i64 3] 3))).grown hs1 hg1)
  clear hq hj hs1 hg1 HP5 hsb
  go_wp2_with fail
  go_loopw [6, 7] (fun sv t W => ∃ (s q : Nat), sv = .int .i64 (s : Int) ∧ t = .int .i64 (q : Int) ∧ s < N ∧ q ≤ 3 ∧ Hid (SMade w sb g (.slice A L c) ms W)) (fun _ t _ => (intOf t).toNat)
  case atStart => exact ⟨0, q, rfl, rfl, by omega, hq3, H2⟩
  case round =>
    obtain ⟨s, q, rfl, rfl, hs, hq, hM⟩ := hrel
    by_cases hpos : 0 < q
    · have hqi : (0 : Int) < (q : Int) := by omega
      go_wp2_with fail
      refine (TN_run _ sb _ (by omega) (by omega) hM.out.tape).mono ?_
      rintro e W3 ⟨r, hr0, hr1, rfl, hs3, hg3⟩
      obtain ⟨K, rfl⟩ := Int.eq_ofNat_of_zero_le hr0
      have H3 := Lib.hid (hM.out.grown hs3 hg3)
      have HOR := Lib.hid (shl_or s K (by omega) (by omega))
      have hso : s ||| 2 ^ K < N := by rw [← HN.out]; exact Nat.or_lt_two_pow (by rw [HN.out]; exact hs) (Nat.pow_lt_pow_right (by omega) (by omega))
      have hk0 : (0 : Int) ≤ (K : Int) := by omega
      have hk64 : (K : Int) < 64 := by omega
      clear hs3 hg3 hM
      go_wp2_with fail
      rw [HOR.out]
      go_roundw
      case rel => exact ⟨s ||| 2 ^ K, q - 1, rfl, by go_num, hso, by omega, H3⟩
      case measure => simp [intOf]; omega
    · obtain rfl : q = 0 := by omega
      clear hpos
      go_upto_region 7 with fail
      have hp := pow11' L (by omega)
      rw [HN.out] at hp
      have hw1 : IntKind.i64.wrap ((N : Int) - 1) = ((N - 1 : Nat) : Int) := (IntWalk.i64_in _ (by omega)).trans (by omega)
      have hdl := declS_lt ms ms.length (by rw [HL.out]; exact hl)
      have hand := andNot_nat (N - 1) (declS ms ms.length) (by omega) hdl
      have HQL := Lib.hid (show (N - 1) ^^^ ((N - 1) &&& declS ms ms.length) < N by rw [← HN.out]; exact Nat.xor_lt_two_pow (by rw [HN.out]; omega) (Nat.lt_of_le_of_lt Nat.and_le_left (by rw [HN.out]; omega)))
      obtain ⟨D, hD⟩ : ∃ D, declS ms ms.length = D := ⟨_, rfl⟩
      have HD := Lib.hid hD
      rw [hD] at hand HQL
      generalize (N - 1) ^^^ ((N - 1) &&& D) = Q at *
      generalize N - 1 = n1 at *
      have HLL := Lib.hid (show ms.length ≤ 10 by rw [HL.out]; exact hl)
      clear hD hdl
      have hS := Lib.hid (hM.out.bel ⟨rfl, rfl, rfl, Nat.le_refl _, fun _ _ => rfl⟩ : SMade w sb g (.slice A L c) ms wr.drew).keeps
      go_region_held3 (fun W => W.cell? ⟨g, 0, none⟩ = some (.slice A L c) ∧ SMade w sb g (.slice A L c) ms W) (first | exact hS.out | exact hSK | exact keepZ (by assumption) hbK | go_keep)
        (first
          | (go_at_call 7; refine (TN_run _ _ _ (by omega) (by omega) (by exact tapeZ (by assumption))).mono ?_; rintro e WK ⟨r, hr0, hr1, rfl, hsK, hgK⟩; obtain ⟨a, rfl⟩ := Int.eq_ofNat_of_zero_le hr0; have hSK := growZ (by assumption) hsK hgK)
          | (go_at_call 43; refine (rdeclared_run _ 3 ms _ _ HLL.out (by exact memsZ (by assumption))).mono ?_; rintro e WK ⟨rfl, hbK⟩; rw [HD.out]; have hSK := keepZ (by assumption) hbK))
      all_goals
        obtain ⟨R, hR, hRe⟩ := or_mulN (L := L) s Q a hl (by rw [HN.out]; exact hs) (by rw [HN.out]; exact HQL.out) (by omega)
        rw [HN.out] at hR
        have HZ := Lib.hid (And.intro hR (And.intro hSK.2.tape hSK.2.gr))
        have HRE := Lib.hid hRe
        clear hRe hSK
        go_wp2_with fail
        go_ret
        exact ⟨R, by first | rfl | (rw [HRE.out]; rfl), HZ.out⟩

end Go.Proofs.Ytnfdacfhhkahhaa.D3
namespace Go.Proofs.Ytnfdacfhhkahhaa

end Go.Proofs.Ytnfdacfhhkahhaa

namespace Go.Proofs.Ytnfdacfhhkahhaa
set_option linter.unusedVariables false
set_option linter.unusedSimpArgs false
open Go.RowKit

/-- What Follows returns. -/
def FolIs (s x : Nat) (ls hs : List Mem) (e : Ending) : Prop := ∃ a, OfIs s ls hs a ∧
  ((∃ k : Nat, a.testBit k = true ∧ x.testBit k = false ∧ k < 10 ∧ blkM 3 ls (a &&& x) k = true ∧ e = .returned (.tuple #[.int .i64 (k : Int), .bool true, .int .i64 0])) ∨
   ((∀ k : Nat, a.testBit k = true → x.testBit k = false → blkM 3 ls (a &&& x) k = false) ∧ e = .returned (.tuple #[.int .i64 (-1), .bool false, .int .i64 0])))

theorem nodL_get {t j : Nat} (h : j < (nodL t 10).length) : ∃ k : Nat, (nodL t 10).getD j 0 = (k : Int) ∧ k < 10 ∧ t.testBit k = true :=
  (nodL_mem t 10 ((nodL t 10).getD j 0)).1 (by rw [List.getD_eq_getElem?_getD, List.getElem?_eq_getElem h]; exact List.getElem_mem _)

theorem nodL_pos {t k : Nat} (hk : k < 10) (h : t.testBit k = true) : ∃ j, j < (nodL t 10).length ∧ (nodL t 10).getD j 0 = (k : Int) := by
  obtain ⟨j, hj, e⟩ := List.getElem_of_mem ((nodL_mem t 10 (k : Int)).2 ⟨k, rfl, hk, h⟩)
  exact ⟨j, hj, by rw [List.getD_eq_getElem?_getD, List.getElem?_eq_getElem hj, ← e]; rfl⟩

end Go.Proofs.Ytnfdacfhhkahhaa

namespace Go.Proofs.Ytnfdacfhhkahhaa
set_option linter.unusedVariables false
set_option linter.unusedSimpArgs false
open Go.RowKit

theorem isq_zero {ms : List Mem} {q : Nat} (hl : ms.length ≤ 10) (hq : q < 1024) : IsQ 3 ms q ↔ QB (fOf ms) (declS ms ms.length) 0 q := by
  unfold IsQ QB Closed
  constructor
  · rintro ⟨h1, h2, h3⟩
    refine ⟨h1, hq, fun k hk => ⟨Nat.zero_testBit k, h2 k hk, ?_⟩⟩
    have hkl := declS_bit (h2 k hk)
    have h4 := h3 k hkl
    rw [uns_iff hq (by omega), hk, Bool.true_and, Bool.not_eq_false'] at h4
    rw [Nat.or_zero]; exact h4
  · rintro ⟨h1, _, h3⟩
    refine ⟨h1, fun k hk => (h3 k hk).2.1, fun k hk => ?_⟩
    rw [uns_iff hq (by omega)]
    cases hb : q.testBit k
    · rfl
    · have h4 := (h3 k hb).2.2
      rw [Nat.or_zero] at h4
      unfold fOf at h4
      rw [h4]; rfl

theorem holdsT_monoX {n : Int} {p q : Int → Bool} (h : ∀ x, 0 ≤ x → x < n → p x = true → q x = true) : ∀ (d : Nat) (T : Tree), WF n d T → holdsT d p T = true → holdsT d q T = true
  | 0, _, w, _ => w.elim
  | d + 1, .mk thr ns is, w, hh => by
    obtain ⟨_, _, _, _, hr, _, hi⟩ := w
    have h1 : cnt p ns ≤ cnt q ns := cnt_monoA ns (fun x hx => h x (hr x hx).1 (hr x hx).2)
    have h2 : cnt (holdsT d p) is ≤ cnt (holdsT d q) is := cnt_monoA is (fun T hT => holdsT_monoX h d T (hi T hT))
    have h3 : thr ≤ ((cnt p ns + cnt (holdsT d p) is : Nat) : Int) := of_decide_eq_true hh
    exact decide_eq_true (show thr ≤ ((cnt q ns + cnt (holdsT d q) is : Nat) : Int) by omega)

theorem holdsT_congrX {n : Int} {p q : Int → Bool} (h : ∀ x, 0 ≤ x → x < n → p x = q x) (d : Nat) (T : Tree) (w : WF n d T) : holdsT d p T = holdsT d q T := by
  rw [Bool.eq_iff_iff]
  exact ⟨holdsT_monoX (fun x h0 h1 hp => by rw [← h x h0 h1]; exact hp) d T w, holdsT_monoX (fun x h0 h1 hp => by rw [h x h0 h1]; exact hp) d T w⟩

theorem fOf_loc {ls : List Mem} (hl : ls.length ≤ 10) (hok : D3.MemsOk ls.length ls) (k s : Nat) (hk : (declS ls ls.length).testBit k = true) (hs : s < 1024) : fOf ls k s = fOf ls k (s &&& (2 ^ ls.length - 1)) := by
  obtain ⟨m, hm, hd⟩ := declS_memD hk
  have hw := (hok m (List.mem_of_getElem? hm)).1 hd
  have hs2 : s &&& (2 ^ ls.length - 1) < 1024 := and_ltL hs
  unfold fOf trOf
  rw [List.getD_eq_getElem?_getD, hm, sat_of hs, sat_of hs2]
  refine holdsT_congrX (n := (ls.length : Int)) (fun x h0 h1 => ?_) 3 _ hw
  obtain ⟨X, rfl⟩ := Int.eq_ofNat_of_zero_le h0
  have hX : X < ls.length := by omega
  rw [hasB_bit hs (by omega), hasB_bit hs2 (by omega), Nat.testBit_and, Nat.testBit_two_pow_sub_one, decide_eq_true hX, Bool.and_true]

theorem fol_step {ls hs : List Mem} {s a u x : Nat} (hp : PairM ls hs) (hl : ls.length ≤ 10) (hs2 : s < 2 ^ ls.length) (h : OfIs s ls hs a) (hu : QB (fOf ls) (declS ls ls.length) 0 u)
    (hua : ∃ k, u.testBit k = true ∧ a.testBit k = true) (hux : ∀ k, u.testBit k = true → a.testBit k = true → x.testBit k = true) (hx : x < 1024) (hne : ∃ k, a.testBit k = true ∧ x.testBit k = false) :
    ∃ k, a.testBit k = true ∧ x.testBit k = false ∧ blkM 3 ls (a &&& x) k = true := by
  rcases ofIs_iff hp hl hs2 h with ⟨_, h2⟩ | ⟨h1, L, h2, _, ha⟩
  · obtain ⟨k, _, hk⟩ := hua
    rw [h2] at hk; simp at hk
  · rw [ha] at hua hux hne
    obtain ⟨k, k1, k2, k3, k4⟩ := casc_step (pairF hp hl) hs2 h1 h2 (fun k s hk hs => fOf_loc hl hp.okl k s hk hs) hu hua hux hx hne
    rw [← ha] at k1 k4
    refine ⟨k, k1, k2, ?_⟩
    have hz : x &&& a < 1024 := and_ltL hx
    have ho : offS (a &&& x) k = x &&& a := by
      apply Nat.eq_of_testBit_eq
      intro j
      rw [offS_bit, Nat.testBit_and, Nat.testBit_and, Bool.and_comm (a.testBit j)]
      by_cases hj : j = k
      · rw [hj, k2]; simp
      · simp [hj]
    unfold blkM
    rw [k3, ho, Bool.true_and]
    unfold blkB
    rw [setB_iff.2 ⟨by omega, by omega⟩, Bool.true_and, Bool.not_eq_true']
    unfold fOf at k4
    rw [sat_of (by omega)] at k4
    rw [show (1023 - ((x &&& a : Nat) : Int)) = ((1023 - (x &&& a) : Nat) : Int) by omega]
    exact k4

def cnt6 (t : Nat) : Nat := (List.range 6).countP (fun k => t.testBit k)

theorem cnt6_le (t : Nat) : cnt6 t ≤ 6 := Nat.le_trans List.countP_le_length (by simp)

theorem cnt6_all : ∀ t : Fin 64, ∀ k : Fin 6, t.val.testBit k.val = true → cnt6 (minS t.val (2 ^ k.val)) + 1 = cnt6 t.val := by decide +kernel

theorem cnt6_step {a x k : Nat} (ha : a < 64) (hk : a.testBit k = true) (hx : x.testBit k = false) : cnt6 (minS a (x ||| 2 ^ k)) + 1 = cnt6 (minS a x) := by
  have h6 : k < 6 := lt_bit (n := 6) ha hk
  have hm : minS a x < 64 := by
    refine Nat.lt_pow_two_of_testBit (n := 6) _ (fun j hj => ?_)
    rw [minS_bit, Nat.testBit_lt_two_pow (Nat.lt_of_lt_of_le ha (Nat.pow_le_pow_right (n := 2) (by decide) hj))]; rfl
  have h1 := cnt6_all ⟨minS a x, hm⟩ ⟨k, h6⟩ (by show (minS a x).testBit k = true; rw [minS_bit, hk, hx]; rfl)
  have e : minS a (x ||| 2 ^ k) = minS (minS a x) (2 ^ k) := by
    apply Nat.eq_of_testBit_eq
    intro j
    rw [minS_bit, minS_bit, minS_bit, Nat.testBit_or]
    cases a.testBit j <;> cases x.testBit j <;> cases (2 ^ k).testBit j <;> rfl
  rw [e]; exact h1

end Go.Proofs.Ytnfdacfhhkahhaa

namespace Go.Proofs.Ytnfdacfhhkahhaa
set_option linter.unusedVariables false
set_option linter.unusedSimpArgs false
open Go.RowKit

def foT : Tree := .mk 3 [0, 1, 2, 3] []

def foM (k : Nat) : List Mem := List.replicate k (true, foT)

theorem foM_succ (k : Nat) : foM (k + 1) = foM k ++ [(true, foT)] := List.replicate_succ'

theorem foM_len (k : Nat) : (foM k).length = k := List.length_replicate

set_option maxRecDepth 100000 in
set_option maxHeartbeats 4000000 in
theorem four_run (w : World) : Calls Try.prog 49 #[] w fun e w' => ∃ v, e = .returned (.agg #[v]) ∧ MemsAt (fun _ => True) 1 w' v (foM 4) ∧ Below w.heap.size w w' := by
  obtain ⟨i4, hi4, hy0, hy1, hy2⟩ := info_parts infoMember
  have hb2 : Below w.heap.size w ((w.alloc (.cells #[.slice none 0 0] 27)).alloc (.cells #[.slice none 0 0] 27)) := balloc (balloc (bref w) _) _
  have k1 : ((w.alloc (.cells #[.slice none 0 0] 27)).alloc (.cells #[.slice none 0 0] 27)).heap[w.heap.size]? = some (.cells #[.slice none 0 0] 27 (0, 0)) := alloc_on (alloc_at rfl)
  have k2 : ((w.alloc (.cells #[.slice none 0 0] 27)).alloc (.cells #[.slice none 0 0] 27)).heap[w.heap.size + 1]? = some (.cells #[.slice none 0 0] 27 (0, 0)) := alloc_at (alloc_sz _ _)
  have hsz : ((w.alloc (.cells #[.slice none 0 0] 27)).alloc (.cells #[.slice none 0 0] 27)).heap.size = w.heap.size + 2 := by rw [alloc_sz, alloc_sz]
  have HB := Lib.hid hb2
  have K1 := Lib.hid k1
  have K2 := Lib.hid k2
  clear hb2 k1 k2
  go_enter Try.func49, Try.ntmps49
  go_upto_region 2 with fail
  generalize ((w.alloc (.cells #[.slice none 0 0] 27)).alloc (.cells #[.slice none 0 0] 27)) = W1 at *
  generalize hg : w.heap.size = g at *
  have HG := Lib.hid hg
  clear hg
  go_wp2_with fail
  go_loopw [2] (fun t W => ∃ (k : Nat) (v : Value), k ≤ 4 ∧ t = .int .i64 k ∧ Hid (MemRow (g + 2) 1 W v (foM k)) ∧ Hid (W.heap[g + 1]? = some (.cells #[v] 27 (0, 0))) ∧ Hid (W1.grownBy W (some (g + 1)))) (fun t _ => 4 - (intOf t).toNat)
  case atStart => exact ⟨0, .slice none 0 0, by omega, rfl, Lib.hid (MemRow.nil _ _ _), K2, Lib.hid (World.grownBy.refl _ _)⟩
  case round =>
    obtain ⟨k, v, hk, rfl, hRow, hOut, hGr⟩ := hrel
    have hwr := hGr.out.size
    by_cases hlt : k < 4
    · have HRS := Lib.hid (foM_succ k)
      have HRL := Lib.hid (foM_len k)
      obtain ⟨cs, hcs, hcl⟩ := hRow.out
      have hcn := hcs.1
      have HCL := Lib.hid hcl
      have HCS := Lib.hid hcs
      have HRO := Lib.hid hcs.lt
      have hk4 : (k : Int) < 4 := by omega
      obtain ⟨wo, hwo⟩ : ∃ x, x = wr := ⟨_, rfl⟩
      subst hwo
      have hnew := cell_four_new (wo.alloc (.cells #[.int .i64 0, .int .i64 1, .int .i64 2, .int .i64 3] 3)) (.bool true) (.int .i64 3) (.slice (some ⟨wo.heap.size, 0, none⟩) 4 4) (.slice none 0 0) 34
      rw [alloc_sz] at hnew
      have HNEW := Lib.hid hnew
      have HCSA := Lib.hid ((HCS.out.alloc (.cells #[.int .i64 0, .int .i64 1, .int .i64 2, .int .i64 3] 3)).alloc (.cells #[.bool true, .int .i64 3, .slice (some ⟨wo.heap.size, 0, none⟩) 4 4, .slice none 0 0] 34))
      have hba2 := balloc (balloc (bref wo) (.cells #[.int .i64 0, .int .i64 1, .int .i64 2, .int .i64 3] 3)) (.cells #[.bool true, .int .i64 3, .slice (some ⟨wo.heap.size, 0, none⟩) 4 4, .slice none 0 0] 34)
      have hints : ((wo.alloc (.cells #[.int .i64 0, .int .i64 1, .int .i64 2, .int .i64 3] 3)).alloc (.cells #[.bool true, .int .i64 3, .slice (some ⟨wo.heap.size, 0, none⟩) 4 4, .slice none 0 0] 34)).heap[wo.heap.size]? = some (.cells #[.int .i64 0, .int .i64 1, .int .i64 2, .int .i64 3] 3 (0, 0)) := alloc_on (alloc_at rfl)
      have hTT : TAt (fun b => wo.heap.size ≤ b) 1 ((wo.alloc (.cells #[.int .i64 0, .int .i64 1, .int .i64 2, .int .i64 3] 3)).alloc (.cells #[.bool true, .int .i64 3, .slice (some ⟨wo.heap.size, 0, none⟩) 4 4, .slice none 0 0] 34)) (.int .i64 3) (.slice (some ⟨wo.heap.size, 0, none⟩) 4 4) (.slice none 0 0) foT := by
        refine ⟨rfl, by decide, by decide, ⟨some ⟨wo.heap.size, 0, none⟩, 4, rfl, fun k hk => ⟨wo.heap.size, 0, rfl, Nat.le_refl _, ?_⟩⟩, ⟨none, 0, rfl, fun k T hT => by simp at hT⟩⟩
        have hk3 : k < 4 := hk
        rw [Nat.zero_add]
        refine (cell_of_row _ _ k _ _ (0, 0) hints).trans ?_
        match k, hk3 with
        | 0, _ | 1, _ | 2, _ | 3, _ => rfl
      have HBA2 := Lib.hid hba2
      have HTT := Lib.hid hTT
      have hszA : ((wo.alloc (.cells #[.int .i64 0, .int .i64 1, .int .i64 2, .int .i64 3] 3)).alloc (.cells #[.bool true, .int .i64 3, .slice (some ⟨wo.heap.size, 0, none⟩) 4 4, .slice none 0 0] 34)).heap.size = wo.heap.size + 1 + 1 := by rw [alloc_sz, alloc_sz]
      have HSZA := Lib.hid hszA
      have hcl3 : g + 1 < wo.heap.size := by omega
      have q2 : wo.cell? ⟨g + 1, 0, none⟩ = some v := cell_of_row _ _ 0 _ _ (0, 0) hOut.out
      clear hnew hba2 hszA hints hTT hcl hcs
      go_wp2_with (at_builtin; refine wpList_append_lies _ rfl _ _ 25 rfl (g + 2) 34 i4 (.agg #[.bool false, .int .i64 0, .slice none 0 0, .slice none 0 0]) 4 64 Try.underlying25 hi4 hy0 hy1 hy2 rfl (by decide) _ (foM k).length cs rfl (by exact HCSA.out) ⟨_, 0, none⟩ 1 1 [.bool true, .int .i64 3, .slice (some ⟨wo.heap.size, 0, none⟩) 4 4, .slice none 0 0] rfl rfl (by exact HNEW.out) (by intro u hu; simp at hu; rcases hu with rfl | rfl | rfl | rfl <;> rfl) (by omega) (by have := HRL.out; unfold maxLen; omega) (by have := HRL.out; omega) (by have := HSZA.out; omega) _ rfl ?_; intro g4 cap4 W5 hown4 hgrow4 hat4 hlt4; have hcb5 : W5.heap[g + 1]? = some (.cells #[v] 27 (0, 0)) := (hgrow4.block (g + 1) (by have := HSZA.out; omega) (fun e => by have := (HRO.out _ e.symm).1; omega)).trans ((HBA2.out.block (g + 1) hcl3).trans hOut.out); have s0 : W5.cell? ⟨g + 1, 0, none⟩ = some v := cell_of_row _ _ 0 _ _ (0, 0) hcb5; have sf : W5.frozen? ⟨g + 1, 0, none⟩ = false := by simp [World.frozen?, hcb5])
      have hgw : ((wo.alloc (.cells #[.int .i64 0, .int .i64 1, .int .i64 2, .int .i64 3] 3)).alloc (.cells #[.bool true, .int .i64 3, .slice (some ⟨wo.heap.size, 0, none⟩) 4 4, .slice none 0 0] 34)).grownBy W5 v.ownBlock := ⟨hgrow4.os, hgrow4.tape, hgrow4.output, hgrow4.size, hgrow4.block⟩
      have hrow5 := MemRow.append (m := (true, foT)) hRow.out (fun q _ hq => HBA2.out.block q hq) (by have := HSZA.out; omega) (by omega) HCL.out hcn HTT.out hown4 hgw hat4
      have hrow6 := hrow5.keep (W' := W5.setCell ⟨g + 1, 0, none⟩ (.slice (some ⟨g4, 0, none⟩) ((foM k).length + 1) cap4)) (fun q hq _ => Below.heap_setCell _ _ _ _ (by simp; omega))
      have hset5 : (W5.setCell ⟨g + 1, 0, none⟩ (.slice (some ⟨g4, 0, none⟩) ((foM k).length + 1) cap4)).heap[g + 1]? = some (.cells #[.slice (some ⟨g4, 0, none⟩) ((foM k).length + 1) cap4] 27 (0, 0)) := by
        simp [World.setCell, Array.getElem?_modify, hcb5]
      have hgr5 : W1.grownBy (W5.setCell ⟨g + 1, 0, none⟩ (.slice (some ⟨g4, 0, none⟩) ((foM k).length + 1) cap4)) (some (g + 1)) :=
        grown_at (gown (grown_trans hGr.out (grown_below HBA2.out)) hgw (fun q hq => by have := (HRO.out q hq).1; omega)) 0 _
      rw [← HRS.out] at hrow6
      have HROW := Lib.hid hrow6
      have HSET := Lib.hid hset5
      have HGR := Lib.hid hgr5
      clear hrow5 hrow6 hset5 hgr5 hown4 hgrow4 hat4 hlt4 hcb5 s0 sf hgw
      go_roundw
      case rel => exact ⟨k + 1, _, by omega, by go_num, HROW, HSET, HGR⟩
      case measure => simp [intOf]; omega
    · obtain rfl : k = 4 := by omega
      obtain ⟨Av, cv, hv⟩ : ∃ A c, v = .slice A (foM 4).length c := by
        obtain ⟨A, c, h1⟩ := (hRow.out.mems (P := fun _ => True) (fun _ _ => trivial)).slice
        exact ⟨A, c, h1⟩
      rw [foM_len] at hv
      subst hv
      have c2 : wr.cell? ⟨g + 1, 0, none⟩ = some (.slice Av 4 cv) := cell_of_row _ _ 0 _ _ (0, 0) hOut.out
      have hres : wr.heap[g]? = some (.cells #[.slice none 0 0] 27 (0, 0)) := (hGr.out.block g (by omega) (by simp)).trans K1.out
      have z0 : wr.cell? ⟨g, 0, none⟩ = some (.slice none 0 0) := cell_of_row _ _ 0 _ _ (0, 0) hres
      have zf : wr.frozen? ⟨g, 0, none⟩ = false := by simp [World.frozen?, hres]
      have hset : (wr.setCell ⟨g, 0, none⟩ (.slice Av 4 cv)).heap[g]? = some (.cells #[.slice Av 4 cv] 27 (0, 0)) := by
        simp [World.setCell, Array.getElem?_modify, hres]
      have q0 : (wr.setCell ⟨g, 0, none⟩ (.slice Av 4 cv)).cell? ⟨g, 0, none⟩ = some (.slice Av 4 cv) := cell_of_row _ _ 0 _ _ (0, 0) hset
      have hms : MemsAt (fun _ => True) 1 (wr.setCell ⟨g, 0, none⟩ (.slice Av 4 cv)) (.slice Av 4 cv) (foM 4) := (hRow.out.keep (fun q hq _ => Below.heap_setCell _ _ _ _ (by simp; omega))).mems (fun _ _ => trivial)
      have hbW : Below w.heap.size w (wr.setCell ⟨g, 0, none⟩ (.slice Av 4 cv)) := by
        have h1 := HB.out
        rw [← HG.out] at h1
        exact bset (h1.grown hGr.out h1.size (fun q hq => by obtain rfl := Option.some.inj hq; have := HG.out; omega)) (p := ⟨g, 0, none⟩) (by have := HG.out; show w.heap.size ≤ g; omega) _
      have HF := Lib.hid (And.intro hms hbW)
      have Q0 := Lib.hid q0
      clear hset q0 hms hbW hres
      go_wp2_with fail
      have q0 := Q0.out
      refine bodyPost_ret (v := .agg #[.slice Av 4 cv]) ?_ rfl ⟨_, rfl, HF.out⟩
      simp [results, Try.results49, go_sem, q0]

theorem foM_decl : declS (foM 4) 4 = 15 := by decide

theorem foM_7 : ∀ k, k < 4 → uns 1 (foM 4) 7 k = false := by decide +kernel

theorem foM_14 : uns 1 (foM 4) 14 0 = false := by decide +kernel

theorem foM_3 : ∀ q : Fin 4, q.val.testBit 0 = true → uns 1 (foM 4) q.val 0 = true := by decide +kernel

theorem foM_b6 : blkM 1 (foM 4) 6 0 = true := by decide +kernel

theorem foM_b0 : blkM 1 (foM 4) 0 0 = false := by decide +kernel

theorem fo1 : accB 1 (foM 4) 0 7 0 = true := by
  unfold accB
  rw [Bool.or_eq_true]
  exact .inr (rdyB_iff.2 ⟨7, by omega, sub_iff.1 (by decide), fun k hk => foM_7 k (by rw [foM_len] at hk; exact hk), by decide⟩)

theorem fo2 : accB 1 (foM 4) 0 0 6 = true := by unfold accB; rw [foM_b6]; rfl

theorem fo3 : accB 1 (foM 4) 0 3 0 = false := by
  unfold accB
  rw [foM_b0, Bool.false_or]
  cases h : rdyB 1 (foM 4) ((3 ||| 0) &&& declS (foM 4) (foM 4).length) 0
  · rfl
  · obtain ⟨Q, h1, h2, h3, h4⟩ := rdyB_iff.1 h
    have hQ : Q < 4 := lt_of_bits (b := 3) (fun k hk => (sub_and.1 h2).1 k hk) (by omega)
    have h5 := h3 0 (by rw [foM_len]; omega)
    rw [foM_3 ⟨Q, hQ⟩ h4] at h5
    cases h5

theorem fo4 : cnfB 1 (foM 4) 0 7 = true := rdyB_iff.2 ⟨7, by omega, sub_iff.1 (by decide), fun k hk => foM_7 k (by rw [foM_len] at hk; exact hk), by decide⟩

theorem fo5 : cnfB 1 (foM 4) 0 14 = false := by
  cases h : cnfB 1 (foM 4) 0 14
  · rfl
  · obtain ⟨Q, h1, h2, h3, h4⟩ := rdyB_iff.1 h
    have := (sub_and.1 h2).1 0 h4
    simp at this

set_option maxRecDepth 100000 in
set_option maxHeartbeats 4000000 in
theorem awake18 (w : World) : Calls Try.prog 20 #[] w fun e w' => e = .returned (.bool true) ∧ Below w.heap.size w w' := by
  have hl : (foM 4).length ≤ 10 := by decide
  have F1 := Lib.hid fo1
  have F2 := Lib.hid fo2
  have F3 := Lib.hid fo3
  have F4 := Lib.hid fo4
  have F5 := Lib.hid fo5
  go_enter Try.func20, Try.ntmps20
  go_wp2_with fail
  refine (four_run _).mono ?_
  rintro e w1 ⟨v1, rfl, hm1, hb1⟩
  go_wp2_with fail
  refine (accepts_run _ 1 _ _ 0 7 0 _ hl (by omega) (by omega) (by omega) hm1).mono ?_
  rintro e w2 ⟨rfl, hb2⟩
  rw [F1.out]
  have HB2 := Lib.hid (bstep hb1 hb2)
  clear hm1 hb1 hb2
  go_wp2_with fail
  refine (four_run _).mono ?_
  rintro e w3 ⟨v3, rfl, hm3, hb3⟩
  go_wp2_with fail
  refine (accepts_run _ 1 _ _ 0 0 6 _ hl (by omega) (by omega) (by omega) hm3).mono ?_
  rintro e w4 ⟨rfl, hb4⟩
  rw [F2.out]
  have HB4 := Lib.hid (bstep (bstep HB2.out hb3) hb4)
  clear hm3 hb3 hb4
  go_wp2_with fail
  refine (four_run _).mono ?_
  rintro e w5 ⟨v5, rfl, hm5, hb5⟩
  go_wp2_with fail
  refine (accepts_run _ 1 _ _ 0 3 0 _ hl (by omega) (by omega) (by omega) hm5).mono ?_
  rintro e w6 ⟨rfl, hb6⟩
  rw [F3.out]
  have HB6 := Lib.hid (bstep (bstep HB4.out hb5) hb6)
  clear hm5 hb5 hb6
  go_wp2_with fail
  refine (four_run _).mono ?_
  rintro e w7 ⟨v7, rfl, hm7, hb7⟩
  go_wp2_with fail
  refine (confirms_run _ 1 _ _ 0 7 _ hl (by omega) (by omega) hm7).mono ?_
  rintro e w8 ⟨rfl, hb8⟩
  rw [F4.out]
  have HB8 := Lib.hid (bstep (bstep HB6.out hb7) hb8)
  clear hm7 hb7 hb8
  go_wp2_with fail
  refine (four_run _).mono ?_
  rintro e w9 ⟨v9, rfl, hm9, hb9⟩
  go_wp2_with fail
  refine (confirms_run _ 1 _ _ 0 14 _ hl (by omega) (by omega) hm9).mono ?_
  rintro e w10 ⟨rfl, hb10⟩
  rw [F5.out]
  have HB10 := Lib.hid (bstep (bstep HB8.out hb9) hb10)
  clear hm9 hb9 hb10
  go_wp2_with fail
  go_ret
  exact ⟨rfl, HB10.out⟩

end Go.Proofs.Ytnfdacfhhkahhaa

namespace Go.Proofs.Ytnfdacfhhkahhaa
set_option linter.unusedVariables false
set_option linter.unusedSimpArgs false
open Go.RowKit

end Go.Proofs.Ytnfdacfhhkahhaa
