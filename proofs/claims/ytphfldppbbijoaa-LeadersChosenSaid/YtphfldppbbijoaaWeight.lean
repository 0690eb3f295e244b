/- The weight of a node in a trust, and the contracts of slices.Contains and leaders.Weight. -/
import Derived.Test.YtphfldppbbijoaaMade
import Derived.Test.YtphfldppbbijoaaRight
namespace Go.Proofs.Ytphfldppbbijoaa
set_option linter.unusedVariables false
open Go.RowKit

set_option maxHeartbeats 1000000 in
theorem indexInt_run (A : Option Addr) (c : Nat) (ns : List Int) (x : Int) (w : World) (hn : ns.length ≤ 1000000)
    (h : ∀ k, k < ns.length → ∃ b off, A = some ⟨b, off, none⟩ ∧ w.cell? ⟨b, off + k, none⟩ = some (.int .i64 (ns.getD k 0))) :
    Calls Try.prog 103 #[.slice A ns.length c, .int .i64 x] w fun e w' => ∃ r : Int, e = .returned (.int .i64 r) ∧ (0 ≤ r ↔ x ∈ ns) ∧ -1 ≤ r ∧ r ≤ 1000000 ∧ w = w' := by
  have H := Lib.hid h
  clear h
  go_enter Try.func103, Try.ntmps103
  go_wp2_with fail
  go_loop [8] (fun t => ∃ k : Nat, k ≤ ns.length ∧ t = .int .i64 k ∧ Hid (x ∉ ns.take k)) (fun t => ns.length - (intOf t).toNat)
  case atStart => exact ⟨0, by omega, rfl, Lib.hid (by simp)⟩
  case round =>
    obtain ⟨k, hk, rfl, hNot⟩ := hrel
    by_cases hlt : k < ns.length
    · obtain ⟨b, off, rfl, hc⟩ := H.out k hlt
      have hx0 : ns[k]? = some (ns.getD k 0) := by rw [List.getD_eq_getElem?_getD, List.getElem?_eq_getElem hlt]; rfl
      have hmem := List.mem_of_getElem? hx0
      by_cases hx : x = ns.getD k 0
      · have hin := Lib.hid (show x ∈ ns by rw [hx]; exact hmem)
        rw [← hx] at hc
        clear hx hx0 hmem
        go_wp2_with fail
        go_ret
        exact ⟨k, rfl, ⟨fun _ => hin.out, fun _ => by omega⟩, by omega, by omega, rfl⟩
      · have hN2 := Lib.hid (show x ∉ ns.take (k + 1) by
          rw [List.take_add_one, hx0]
          simp only [Option.toList_some, List.mem_append, List.mem_singleton, not_or]
          exact ⟨hNot.out, hx⟩)
        clear hx0 hmem
        generalize ns.getD k 0 = y at *
        go_wp2_with fail
        go_round
        case rel => exact ⟨k + 1, by omega, by go_num, hN2⟩
        case measure => simp [intOf]; omega
    · obtain rfl : k = ns.length := by omega
      have hN := hNot.out
      rw [List.take_length] at hN
      have hN2 := Lib.hid hN
      clear hN hNot
      go_wp2_with fail
      go_ret
      exact ⟨-1, rfl, ⟨fun h => by omega, fun h => (hN2.out h).elim⟩, by omega, by omega, rfl⟩

set_option maxHeartbeats 1000000 in
theorem containsInt_run (A : Option Addr) (c : Nat) (ns : List Int) (x : Int) (w : World) (hn : ns.length ≤ 1000000)
    (h : ∀ k, k < ns.length → ∃ b off, A = some ⟨b, off, none⟩ ∧ w.cell? ⟨b, off + k, none⟩ = some (.int .i64 (ns.getD k 0))) :
    Calls Try.prog 93 #[.slice A ns.length c, .int .i64 x] w fun e w' => e = .returned (.bool (decide (x ∈ ns))) ∧ w = w' := by
  have H := Lib.hid h
  clear h
  go_enter Try.func93, Try.ntmps93
  go_wp2_with fail
  refine (indexInt_run A c ns x _ hn H.out).mono ?_
  rintro e w2 ⟨r, rfl, hr, h1, h2, rfl⟩
  have hd : decide (0 ≤ r) = decide (x ∈ ns) := by simp [hr]
  clear hr
  go_wp2_with fail
  go_ret
  exact ⟨rfl, rfl⟩

/-- Block o holds a fraction. -/
def FracAt (w : World) (o : Nat) (a b : Int) : Prop := w.heap[o]? = some (.cells #[.int .i64 a, .int .i64 b] 78 (0, 0))
theorem FracAt.lt {w : World} {o : Nat} {a b : Int} (h : FracAt w o a b) : o < w.heap.size := by
  rcases Nat.lt_or_ge o w.heap.size with h1 | h1
  · exact h1
  · unfold FracAt at h; rw [Array.getElem?_eq_none h1] at h; cases h
theorem FracAt.cs {w : World} {o : Nat} {a b : Int} (h : FracAt w o a b) : w.cell? ⟨o, 0, none⟩ = some (.int .i64 a) ∧ w.cell? ⟨o, 1, none⟩ = some (.int .i64 b) :=
  ⟨cell_of_row _ _ 0 _ _ (0, 0) h, cell_of_row _ _ 1 _ _ (0, 0) h⟩
theorem FracAt.fr {w : World} {o : Nat} {a b : Int} (h : FracAt w o a b) (k : Nat) : w.frozen? ⟨o, k, none⟩ = false := by
  unfold FracAt at h
  simp [World.frozen?, h]
theorem FracAt.keep {w w' : World} {o : Nat} {a b : Int} (h : FracAt w o a b) (hk : w'.heap[o]? = w.heap[o]?) : FracAt w' o a b := hk.trans h
theorem FracAt.set {w : World} {o : Nat} {a b : Int} (h : FracAt w o a b) (x y : Int) : FracAt ((w.setCell ⟨o, 0, none⟩ (.int .i64 x)).setCell ⟨o, 1, none⟩ (.int .i64 y)) o x y := by
  unfold FracAt at h ⊢
  simp [World.setCell, Array.getElem?_modify, h]

/-- The weight of a node, if it has one. -/
def weightT : Nat → Tree → Int → Option (Int × Int)
  | 0, _, _ => none
  | d + 1, .mk thr ns is, x => if x ∈ ns then some (thr, (ns.length : Int) + (is.length : Int)) else (is.findSome? (fun T => weightT d T x)).map fun p => (thr * p.1, ((ns.length : Int) + (is.length : Int)) * p.2)
def fracV : Option (Int × Int) → Value
  | none => .agg #[.int .i64 0, .int .i64 0]
  | some p => .agg #[.int .i64 p.1, .int .i64 p.2]
theorem weightT_bound {n : Int} {x : Int} : ∀ (d : Nat) (T : Tree), WF n d T → ∀ p, weightT d T x = some p → 1 ≤ p.1 ∧ p.1 ≤ p.2 ∧ p.2 ≤ ((8 ^ d : Nat) : Int)
  | 0, _, w, _, _ => w.elim
  | d + 1, .mk thr ns is, w, p, hp => by
    obtain ⟨h1, h2, h3, h4, _, _, h7⟩ := w
    have h8 : 1 ≤ 8 ^ d := Nat.one_le_pow _ _ (by omega)
    unfold weightT at hp
    split at hp
    · cases hp
      show 1 ≤ thr ∧ thr ≤ (ns.length : Int) + (is.length : Int) ∧ (ns.length : Int) + (is.length : Int) ≤ _
      rw [Nat.pow_succ]
      refine ⟨h1, by omega, ?_⟩
      push_cast
      have : (1 : Int) ≤ ((8 ^ d : Nat) : Int) := by exact_mod_cast h8
      push_cast at this
      omega
    · rw [Option.map_eq_some_iff] at hp
      obtain ⟨q, hq, rfl⟩ := hp
      obtain ⟨T, hT, hqT⟩ := List.exists_of_findSome?_eq_some hq
      obtain ⟨b1, b2, b3⟩ := weightT_bound d T (h7 T hT) q hqT
      show 1 ≤ thr * q.1 ∧ thr * q.1 ≤ ((ns.length : Int) + (is.length : Int)) * q.2 ∧ ((ns.length : Int) + (is.length : Int)) * q.2 ≤ _
      have hm : thr ≤ (ns.length : Int) + (is.length : Int) := by omega
      have hm8 : (ns.length : Int) + (is.length : Int) ≤ 8 := by omega
      refine ⟨Int.mul_pos (by omega) (by omega), Int.mul_le_mul hm b2 (by omega) (by omega), ?_⟩
      rw [Nat.pow_succ, Nat.mul_comm]
      push_cast at *
      exact Int.mul_le_mul hm8 b3 (by omega) (by omega)
theorem findSome_at {α β : Type} {f : α → Option β} {l : List α} {k : Nat} {x : α} {p : β} (h : ∀ y ∈ l.take k, f y = none) (hx : l[k]? = some x) (hp : f x = some p) : l.findSome? f = some p := by
  have e : l = l.take k ++ x :: l.drop (k + 1) := by
    obtain ⟨hk, he⟩ := List.getElem?_eq_some_iff.1 hx
    rw [← he, List.getElem_cons_drop hk, List.take_append_drop]
  rw [e, List.findSome?_append, List.findSome?_eq_none_iff.2 h, List.findSome?_cons, hp]; rfl
end Go.Proofs.Ytphfldppbbijoaa
