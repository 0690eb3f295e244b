/- Nodes that a trust does not use make no difference; more nodes hold more. -/
import Derived.Test.YtnfdacfhhkahhaaSatMath
namespace Go.Proofs.Ytnfdacfhhkahhaa
set_option linter.unusedVariables false
set_option linter.unusedSimpArgs false
open Go.RowKit

theorem foldOr_bit : ∀ (l : List Nat) (s K : Nat), (l.foldl (· ||| ·) s).testBit K = (s.testBit K || l.any (fun x => x.testBit K))
  | [], s, K => by simp
  | x :: l, s, K => by
    rw [List.foldl_cons, foldOr_bit l _ K, Nat.testBit_or, List.any_cons, Bool.or_assoc]
theorem usesT_bit {n : Int} (hn : n ≤ 10) {d : Nat} {thr : Int} {ns : List Int} {is : List Tree} (w : WF n (d + 1) (.mk thr ns is)) (K : Nat) :
    (usesT (d + 1) (.mk thr ns is)).testBit K = (decide ((K : Int) ∈ ns) || is.any (fun T => (usesT d T).testBit K)) := by
  show ((is.map (usesT d)).foldl (· ||| ·) (nodesS ns)).testBit K = _
  rw [foldOr_bit, nodesS_bit K (w.inR hn), List.any_map]
  rfl
theorem cnt_congr {α : Type} {p q : α → Bool} (l : List α) (h : ∀ x ∈ l, p x = q x) : cnt p l = cnt q l := by
  unfold cnt
  rw [List.filter_congr h]
theorem holdsT_uses {n : Int} (hn : n ≤ 10) {p q : Int → Bool} : ∀ (d : Nat) (T : Tree), WF n d T → (∀ K : Nat, K < 10 → (usesT d T).testBit K = true → p (K : Int) = q (K : Int)) → holdsT d p T = holdsT d q T
  | 0, _, w, _ => w.elim
  | d + 1, .mk thr ns is, w, h => by
    have hb := usesT_bit hn w
    have hr := w.inR hn
    obtain ⟨_, _, _, _, _, _, hi⟩ := w
    have h1 : cnt p ns = cnt q ns := cnt_congr ns (fun x hx => by
      obtain ⟨x0, x1⟩ := hr x hx
      obtain ⟨K, rfl⟩ := Int.eq_ofNat_of_zero_le x0
      exact h K (by omega) (by rw [hb]; simp [hx]))
    have h2 : cnt (holdsT d p) is = cnt (holdsT d q) is := cnt_congr is (fun T hT => holdsT_uses hn d T (hi T hT) (fun K hK hu => h K hK (by rw [hb, Bool.or_eq_true, List.any_eq_true]; exact .inr ⟨T, hT, hu⟩)))
    show decide (thr ≤ ((cnt p ns + cnt (holdsT d p) is : Nat) : Int)) = decide (thr ≤ ((cnt q ns + cnt (holdsT d q) is : Nat) : Int))
    rw [h1, h2]

section
variable {n : Int} {d : Nat} {T : Tree}
theorem sat_or {a c : Nat} (hn : n ≤ 10) (w : WF n d T) (ha : a < 1024) (hc : c < 1024) (h : satB d T (a : Int) = true) : satB d T ((a ||| c : Nat) : Int) = true := by
  have hac : a ||| c < 1024 := Nat.or_lt_two_pow (n := 10) ha hc
  rw [sat_in (by omega) (by omega)] at h ⊢
  refine holdsT_mono (fun x x0 x1 hx => ?_) d T w h
  obtain ⟨K, rfl⟩ := Int.eq_ofNat_of_zero_le x0
  rw [hasB_nat (by omega) (by omega)] at hx ⊢
  rw [Nat.testBit_or, hx]; rfl
theorem blk_or {a c : Nat} (hn : n ≤ 10) (w : WF n d T) (ha : a < 1024) (hc : c < 1024) (h : blkB d T (a : Int) = true) : blkB d T ((a ||| c : Nat) : Int) = true := by
  have hac : a ||| c < 1024 := Nat.or_lt_two_pow (n := 10) ha hc
  rw [blk_in (by omega) (by omega)] at h ⊢
  rw [Bool.not_eq_true'] at h ⊢
  rw [← Bool.not_eq_true] at h ⊢
  intro hh
  apply h
  refine holdsT_mono (fun x x0 x1 hx => ?_) d T w hh
  rw [hasB_complI (by omega) (by omega) x0 (by omega)] at hx ⊢
  obtain ⟨K, rfl⟩ := Int.eq_ofNat_of_zero_le x0
  rw [hasB_nat (by omega) (by omega)] at hx ⊢
  rw [Nat.testBit_or] at hx
  revert hx
  cases a.testBit K <;> simp
theorem sat_uses {a : Nat} (hn : n ≤ 10) (w : WF n d T) (ha : a < 1024) : satB d T ((a &&& usesT d T : Nat) : Int) = satB d T (a : Int) := by
  have hau : a &&& usesT d T < 1024 := Nat.lt_of_le_of_lt Nat.and_le_left ha
  rw [sat_in (by omega) (by omega), sat_in (by omega) (by omega)]
  refine holdsT_uses hn d T w (fun K hK hu => ?_)
  rw [hasB_nat (by omega) (by omega), hasB_nat (by omega) (by omega), Nat.testBit_and, hu]; simp
theorem blk_uses {a : Nat} (hn : n ≤ 10) (w : WF n d T) (ha : a < 1024) : blkB d T ((a &&& usesT d T : Nat) : Int) = blkB d T (a : Int) := by
  have hau : a &&& usesT d T < 1024 := Nat.lt_of_le_of_lt Nat.and_le_left ha
  rw [blk_in (by omega) (by omega), blk_in (by omega) (by omega)]
  congr 1
  refine holdsT_uses hn d T w (fun K hK hu => ?_)
  rw [hasB_complI (by omega) (by omega) (by omega) (by omega), hasB_complI (by omega) (by omega) (by omega) (by omega), hasB_nat (by omega) (by omega), hasB_nat (by omega) (by omega), Nat.testBit_and, hu]; simp
end
end Go.Proofs.Ytnfdacfhhkahhaa
