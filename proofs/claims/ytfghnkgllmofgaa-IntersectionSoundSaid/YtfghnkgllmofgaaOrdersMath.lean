/- The mathematics of ClosureOrders. -/
import Derived.Test.YtfghnkgllmofgaaRefSat
namespace Go.Proofs.Ytfghnkgllmofgaa
set_option linter.unusedVariables false
set_option linter.unusedSimpArgs false
open Go.RowKit

theorem declS_bit {ms : List Mem} : ∀ {n k : Nat}, (declS ms n).testBit k = true → k < n
  | 0, k, h => by simp [declS] at h
  | n + 1, k, h => by
    unfold declS at h
    split at h
    · rw [Nat.testBit_or, Bool.or_eq_true] at h
      rcases h with h | h
      · have := declS_bit h; omega
      · rw [Nat.testBit_two_pow] at h
        have : n = k := by simpa using h
        omega
    · have := declS_bit h; omega

theorem gr_uniq {d : Nat} {ms : List Mem} {S G H : Nat} (hG : G < 1024) (hH : H < 1024) (h1 : IsGr d ms S G) (h2 : IsGr d ms S H) : G = H :=
  sub_antisymm (h2.most G hG h1.sub h1.closed) (h1.most H hH h2.sub h2.closed)

/-- A shorter order leaves a node that has to go. -/
theorem elim_cut {d : Nat} {ms : List Mem} : ∀ (l : List Int) (s r : Nat), ElimR d ms s l r → l ≠ [] → ∃ r' k, ElimR d ms s l.dropLast r' ∧ k < ms.length ∧ uns d ms r' k = true
  | [], _, _, _, h => absurd rfl h
  | [x], s, r, ⟨k, _, hk, hu, _⟩, _ => ⟨s, k, rfl, hk, hu⟩
  | x :: y :: l, s, r, ⟨k, e, hk, hu, h2⟩, _ => by
    obtain ⟨r', j, h3, h4, h5⟩ := elim_cut (y :: l) _ r h2 (by simp)
    exact ⟨r', j, ⟨k, e, hk, hu, h3⟩, h4, h5⟩

theorem nodes_pre {P : Nat → Prop} {w : World} {A : Option Addr} {c n : Nat} {l : List Int} (h : NodesAt P w (.slice A l.length c) l) (hn : l.length = n + 1) : NodesAt P w (.slice A n c) l.dropLast := by
  obtain ⟨A', c', h1, h2⟩ := h
  cases h1
  have hd : l.dropLast.length = n := by rw [List.length_dropLast]; omega
  refine ⟨A, c, by rw [hd], fun k hk => ?_⟩
  rw [hd] at hk
  obtain ⟨b, off, e1, e2, e3⟩ := h2 k (by omega)
  refine ⟨b, off, e1, e2, ?_⟩
  have : l.dropLast.getD k 0 = l.getD k 0 := by
    rw [List.getD_eq_getElem?_getD, List.getD_eq_getElem?_getD, List.getElem?_eq_getElem (by omega), List.getElem?_eq_getElem (by omega), List.getElem_dropLast]
  rw [this]; exact e3

/-- What the candidates are: nodes that have to go; none only if none has. -/
def CanOk (d : Nat) (ms : List Mem) (left : Nat) (ns : List Int) (j : Nat) (cs : List Int) : Prop :=
  (∀ x ∈ cs, ∃ k : Nat, x = (k : Int) ∧ k < ms.length ∧ uns d ms left k = true) ∧ (cs = [] → ∀ i k : Nat, i < j → ns[i]? = some (k : Int) → uns d ms left k = false)

theorem CanOk.skip {d : Nat} {ms : List Mem} {left j k : Nat} {ns cs : List Int} (h : CanOk d ms left ns j cs) (hn : ns[j]? = some (k : Int)) (hu : uns d ms left k = false) : CanOk d ms left ns (j + 1) cs := by
  refine ⟨h.1, fun e i q hi hq => ?_⟩
  rcases Nat.lt_or_ge i j with h1 | h1
  · exact h.2 e i q h1 hq
  · obtain rfl : i = j := by omega
    rw [hn] at hq
    have : k = q := by have := Option.some.inj hq; omega
    rw [← this]; exact hu

theorem CanOk.add {d : Nat} {ms : List Mem} {left j k : Nat} {ns cs : List Int} (h : CanOk d ms left ns j cs) (hk : k < ms.length) (hu : uns d ms left k = true) : CanOk d ms left ns (j + 1) (cs ++ [(k : Int)]) := by
  refine ⟨fun x hx => ?_, fun e => by simp at e⟩
  rcases List.mem_append.1 hx with h1 | h1
  · exact h.1 x h1
  · rw [List.mem_singleton] at h1
    exact ⟨k, h1, hk, hu⟩

theorem CanOk.closed {d : Nat} {ms : List Mem} {left : Nat} (hl : ms.length ≤ 10) (hs : left < 1024) (h : CanOk d ms left (nodL left 10) (nodL left 10).length []) : Closed d ms left := by
  intro k hk
  cases hb : left.testBit k
  · unfold uns; rw [hasB_bit hs (by omega), hb]; rfl
  · have hm : (k : Int) ∈ nodL left 10 := (nodL_mem left 10 _).2 ⟨k, rfl, by omega, hb⟩
    obtain ⟨i, hi, he⟩ := List.getElem_of_mem hm
    exact h.2 rfl i k hi (by rw [List.getElem?_eq_getElem hi, he])

theorem left_sub (r k : Nat) (hr : r < 1024) (hk : k < 10) (hb : r.testBit k = true) : IntKind.i64.wrap ((r : Int) - wrap64 (2 ^ k)) = ((r - 2 ^ k : Nat) : Int) := by
  have all : ∀ r : Fin 1024, ∀ k : Fin 10, r.val.testBit k.val = true → IntKind.i64.wrap ((r.val : Int) - wrap64 (2 ^ k.val)) = ((r.val - 2 ^ k.val : Nat) : Int) := by decide +kernel
  exact all ⟨r, hr⟩ ⟨k, hk⟩ hb

end Go.Proofs.Ytfghnkgllmofgaa
