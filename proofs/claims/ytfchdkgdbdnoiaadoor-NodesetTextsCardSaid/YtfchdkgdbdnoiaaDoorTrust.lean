/- Trusts in memory, and the contract of threshold.holds: whether a set satisfies a trust. -/
import Derived.Test.YtfchdkgdbdnoiaaDoorSet
import Derived.Test.YtfchdkgdbdnoiaaDoorTape
import Derived.Deep.DeepCutAuto
namespace Go.Proofs.YtfchdkgdbdnoiaaDoor
set_option linter.unusedVariables false
open Go.RowKit

/-- A trust as a datum. -/
inductive Tree where
  | mk (thr : Int) (nodes : List Int) (inner : List Tree)

/-- The three cells of a trust, v0 v1 v2, read as T; at most d levels. -/
def TAt (P : Nat → Prop) : Nat → World → Value → Value → Value → Tree → Prop
  | 0, _, _, _, _, _ => False
  | d + 1, w, v0, v1, v2, .mk thr ns is =>
      v0 = .int .i64 thr ∧ ns.length ≤ 1000000 ∧ is.length ≤ 1000000 ∧
      (∃ A c, v1 = .slice A ns.length c ∧ ∀ k, k < ns.length → ∃ b off, A = some ⟨b, off, none⟩ ∧ P b ∧ w.cell? ⟨b, off + k, none⟩ = some (.int .i64 (ns.getD k 0))) ∧
      (∃ A c, v2 = .slice A is.length c ∧ ∀ k T, is[k]? = some T → ∃ b off x0 x1 x2, A = some ⟨b, off, none⟩ ∧ P b ∧ w.cell? ⟨b, off + k * 3, none⟩ = some x0 ∧ w.cell? ⟨b, off + k * 3 + 1, none⟩ = some x1 ∧ w.cell? ⟨b, off + k * 3 + 2, none⟩ = some x2 ∧ TAt P d w x0 x1 x2 T)

theorem TAt.both {P Q : Nat → Prop} {w w' : World} (hk : ∀ k, k < w.heap.size → P k → w'.heap[k]? = w.heap[k]?) (hq : ∀ k, k < w.heap.size → P k → Q k) : ∀ (d : Nat) (v0 v1 v2 : Value) (T : Tree), TAt P d w v0 v1 v2 T → TAt Q d w' v0 v1 v2 T := by
  intro d
  induction d with
  | zero => intro v0 v1 v2 T h; exact h.elim
  | succ d ih =>
    intro v0 v1 v2 T h
    obtain ⟨thr, ns, is⟩ := T
    obtain ⟨h0, hn, hi, ⟨A, c, h1, h2⟩, ⟨B, c', h3, h4⟩⟩ := h
    refine ⟨h0, hn, hi, ⟨A, c, h1, fun k hk' => ?_⟩, ⟨B, c', h3, fun k T hT => ?_⟩⟩
    · obtain ⟨b, off, e1, en, e2⟩ := h2 k hk'
      exact ⟨b, off, e1, hq _ (cell_lt e2) en, (World.cell?_of_block (hk _ (cell_lt e2) en)).trans e2⟩
    · obtain ⟨b, off, x0, x1, x2, e1, en, e2, e3, e4, e5⟩ := h4 k T hT
      exact ⟨b, off, x0, x1, x2, e1, hq _ (cell_lt e2) en, (World.cell?_of_block (hk _ (cell_lt e2) en)).trans e2, (World.cell?_of_block (hk _ (cell_lt e3) en)).trans e3, (World.cell?_of_block (hk _ (cell_lt e4) en)).trans e4, ih _ _ _ _ e5⟩

theorem TAt.keep {P : Nat → Prop} {w w' : World} (hk : ∀ k, k < w.heap.size → P k → w'.heap[k]? = w.heap[k]?) {d : Nat} {v0 v1 v2 : Value} {T : Tree} (h : TAt P d w v0 v1 v2 T) : TAt P d w' v0 v1 v2 T := TAt.both hk (fun _ _ h => h) _ _ _ _ _ h

theorem TAt.imp {P Q : Nat → Prop} {w : World} (hq : ∀ k, k < w.heap.size → P k → Q k) {d : Nat} {v0 v1 v2 : Value} {T : Tree} (h : TAt P d w v0 v1 v2 T) : TAt Q d w v0 v1 v2 T := TAt.both (fun _ _ _ => rfl) hq _ _ _ _ _ h

theorem TAt.below {P : Nat → Prop} {w w' : World} {d : Nat} {v0 v1 v2 : Value} {T : Tree} (h : TAt P d w v0 v1 v2 T) (hb : Below w.heap.size w w') : TAt P d w' v0 v1 v2 T := TAt.keep (fun k h1 _ => hb.block k h1) h

theorem TAt.up {P : Nat → Prop} {w : World} : ∀ {d : Nat} {v0 v1 v2 : Value} {T : Tree}, TAt P d w v0 v1 v2 T → TAt P (d + 1) w v0 v1 v2 T := by
  intro d
  induction d with
  | zero => intro v0 v1 v2 T h; exact h.elim
  | succ d ih =>
    intro v0 v1 v2 T h
    obtain ⟨thr, ns, is⟩ := T
    obtain ⟨h0, hn, hi, h1, ⟨B, c', h3, h4⟩⟩ := h
    refine ⟨h0, hn, hi, h1, ⟨B, c', h3, fun k T hT => ?_⟩⟩
    obtain ⟨b, off, x0, x1, x2, e1, en, e2, e3, e4, e5⟩ := h4 k T hT
    exact ⟨b, off, x0, x1, x2, e1, en, e2, e3, e4, ih e5⟩

theorem TAt.form {P : Nat → Prop} {w : World} {d : Nat} {v0 v1 v2 : Value} {T : Tree} (h : TAt P d w v0 v1 v2 T) : ∃ (t : Int) (A : Option Addr) (n c : Nat) (B : Option Addr) (m c' : Nat), v0 = .int .i64 t ∧ v1 = .slice A n c ∧ v2 = .slice B m c' := by
  cases d with
  | zero => exact h.elim
  | succ d =>
    obtain ⟨thr, ns, is⟩ := T
    obtain ⟨h0, _, _, ⟨A, c, h1, _⟩, ⟨B, c', h2, _⟩⟩ := h
    exact ⟨thr, A, _, c, B, _, c', h0, h1, h2⟩

/-- How many of a list hold. -/
def cnt {α : Type} (p : α → Bool) (l : List α) : Nat := (l.filter p).length

theorem cnt_take_succ {α : Type} (p : α → Bool) (l : List α) (k : Nat) (x : α) (h : l[k]? = some x) : cnt p (l.take (k + 1)) = cnt p (l.take k) + if p x then 1 else 0 := by
  unfold cnt
  rw [List.take_add_one, h]
  simp only [Option.toList_some, List.filter_append, List.length_append]
  by_cases hp : p x <;> simp [hp]

theorem cnt_take_le {α : Type} (p : α → Bool) (l : List α) (k : Nat) : cnt p (l.take k) ≤ cnt p l := by
  unfold cnt
  exact (List.Sublist.filter p (List.take_sublist k l)).length_le

theorem cnt_le {α : Type} (p : α → Bool) (l : List α) : cnt p l ≤ l.length := by unfold cnt; exact List.length_filter_le _ _

/-- Does the predicate p of nodes satisfy the trust? -/
def holdsT : Nat → (Int → Bool) → Tree → Bool
  | 0, _, _ => false
  | d + 1, p, .mk thr ns is => decide (thr ≤ ((cnt p ns + cnt (holdsT d p) is : Nat) : Int))

theorem cnt_full {α : Type} (p : α → Bool) (l : List α) : cnt p (l.take l.length) = cnt p l := by rw [List.take_length]

end Go.Proofs.YtfchdkgdbdnoiaaDoor
