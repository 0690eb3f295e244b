/- The set of the nodes of a trust, and the contracts of Uses: of the program's and of the reference's. -/
import Derived.Test.YtoceogdpkfcghaaDoorSize2
namespace Go.Proofs.YtoceogdpkfcghaaDoor
set_option linter.unusedVariables false
open Go.RowKit

def bitS (s : Nat) (k : Int) : Nat := if 0 ≤ k ∧ k < 10 then s ||| 2 ^ k.toNat else s

def nodesS (ns : List Int) : Nat := ns.foldl bitS 0

def usesT : Nat → Tree → Nat
  | 0, _ => 0
  | d + 1, .mk _ ns is => (is.map (usesT d)).foldl (· ||| ·) (nodesS ns)

theorem bitS_lt {s : Nat} {k : Int} (h : s < 1024) : bitS s k < 1024 := by
  unfold bitS
  split
  · rename_i hk
    exact Nat.or_lt_two_pow (n := 10) h (Nat.pow_lt_pow_right (by omega) (by omega))
  · exact h

theorem foldBit_lt : ∀ (ns : List Int) (s : Nat), s < 1024 → ns.foldl bitS s < 1024
  | [], s, h => h
  | k :: ns, s, h => foldBit_lt ns _ (bitS_lt h)

theorem nodesS_lt (ns : List Int) : nodesS ns < 1024 := foldBit_lt ns 0 (by omega)

theorem foldOr_lt : ∀ (l : List Nat) (s : Nat), s < 1024 → (∀ x ∈ l, x < 1024) → l.foldl (· ||| ·) s < 1024
  | [], s, h, _ => h
  | k :: l, s, h, hl => foldOr_lt l _ (Nat.or_lt_two_pow (n := 10) h (hl k List.mem_cons_self)) (fun x hx => hl x (List.mem_cons_of_mem _ hx))

theorem usesT_lt : ∀ (d : Nat) (T : Tree), usesT d T < 1024
  | 0, _ => by unfold usesT; omega
  | d + 1, .mk _ ns is => foldOr_lt _ _ (nodesS_lt ns) (fun x hx => by obtain ⟨T, _, rfl⟩ := List.mem_map.1 hx; exact usesT_lt d T)

theorem foldl_take_succ {α β : Type} (f : β → α → β) (b : β) {l : List α} {k : Nat} {x : α} (h : l[k]? = some x) : (l.take (k + 1)).foldl f b = f ((l.take k).foldl f b) x := by
  rw [List.take_add_one, h]; simp

theorem i64_or_nat (a b : Nat) (ha : a < 9223372036854775808) (hb : b < 9223372036854775808) : bits .or .i64 (a : Int) (b : Int) = ((a ||| b : Nat) : Int) := by
  have hx : a ||| b < 2 ^ 63 := Nat.or_lt_two_pow (by omega) (by omega)
  show IntKind.i64.wrap ((BitVec.ofInt 64 (a : Int) ||| BitVec.ofInt 64 (b : Int)).toNat : Int) = _
  rw [BitVec.toNat_or, ofInt_i64 a ha, ofInt_i64 b hb, IntKind.wrap_i64]
  omega

theorem shl_or (s K : Nat) (hs : s < 1024) (hK : K < 10) : bits .or .i64 (s : Int) (wrap64 (2 ^ K)) = ((s ||| 2 ^ K : Nat) : Int) := by
  have all : ∀ K : Fin 10, wrap64 (2 ^ K.val) = ((2 ^ K.val : Nat) : Int) := by decide +kernel
  have e : wrap64 (2 ^ K) = ((2 ^ K : Nat) : Int) := all ⟨K, hK⟩
  rw [e]
  exact i64_or_nat s (2 ^ K) (by omega) (Nat.lt_of_le_of_lt (Nat.pow_le_pow_right (by omega) (show K ≤ 10 by omega)) (by omega))

end Go.Proofs.YtoceogdpkfcghaaDoor
