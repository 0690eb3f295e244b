/- The contract of the reference's Restrict: only the members of a set stay declared. -/
import Derived.Test.YtfghnkgllmofgaaCMade
namespace Go.Proofs.Ytfghnkgllmofgaa
set_option linter.unusedVariables false
set_option linter.unusedSimpArgs false
open Go.RowKit

/-- Member k of the restricted configuration. -/
def resM (s : Nat) (ms : List Mem) (k : Nat) : Mem := if s.testBit k then ms.getD k (false, .mk 0 [] []) else (false, .mk 0 [] [])

def restM (s : Nat) (ms : List Mem) (n : Nat) : List Mem := (List.range n).map (resM s ms)

theorem restM_len (s : Nat) (ms : List Mem) (n : Nat) : (restM s ms n).length = n := by unfold restM; rw [List.length_map, List.length_range]

theorem restM_succ (s : Nat) (ms : List Mem) (n : Nat) : restM s ms (n + 1) = restM s ms n ++ [resM s ms n] := by unfold restM; rw [List.range_succ, List.map_append]; rfl

theorem restM_get (s : Nat) (ms : List Mem) (n k : Nat) (h : k < n) : (restM s ms n)[k]? = some (resM s ms k) := by
  unfold restM; rw [List.getElem?_map, List.getElem?_range h]; rfl

theorem restM_decl (s : Nat) (ms : List Mem) (n : Nat) (hn : n = ms.length) : ∀ k, k ≤ n → declS (restM s ms n) k = declS ms k &&& s
  | 0, _ => by unfold declS; simp
  | k + 1, h => by
    have ih := restM_decl s ms n hn k (by omega)
    have hg : (restM s ms n).getD k (false, .mk 0 [] []) = resM s ms k := by rw [List.getD_eq_getElem?_getD, restM_get s ms n k (by omega)]; rfl
    show (if ((restM s ms n).getD k (false, .mk 0 [] [])).1 then declS (restM s ms n) k ||| 2 ^ k else declS (restM s ms n) k) = (if (ms.getD k (false, .mk 0 [] [])).1 then declS ms k ||| 2 ^ k else declS ms k) &&& s
    rw [hg, ih]
    unfold resM
    by_cases hb : s.testBit k = true
    · rw [if_pos hb]
      split
      · apply Nat.eq_of_testBit_eq
        intro j
        simp only [Nat.testBit_or, Nat.testBit_and, Nat.testBit_two_pow]
        by_cases hj : k = j
        · subst hj; simp [hb]
        · simp [hj]
      · rfl
    · rw [if_neg hb]
      simp only [Bool.false_eq_true, if_false]
      split
      · apply Nat.eq_of_testBit_eq
        intro j
        simp only [Nat.testBit_or, Nat.testBit_and, Nat.testBit_two_pow]
        by_cases hj : k = j
        · subst hj; simp [hb]
        · simp [hj]
      · rfl

/-- Within the set the restricted configuration says the same. -/
theorem restM_uns {d s : Nat} {ms : List Mem} {q k : Nat} (hk : k < ms.length) (hl : ms.length ≤ 10) (hq : q < 1024) (hs : Sub q s) : uns d (restM s ms ms.length) q k = uns d ms q k := by
  unfold uns
  rw [hasB_bit hq (by omega)]
  cases hb : q.testBit k
  · rfl
  · have h1 : trOf (restM s ms ms.length) k = trOf ms k := by
      unfold trOf
      rw [List.getD_eq_getElem?_getD, restM_get s ms ms.length k hk]
      show (resM s ms k).2 = _
      unfold resM
      rw [if_pos (hs k hb)]
    rw [h1]

theorem restM_closed {d s : Nat} {ms : List Mem} {q : Nat} (hl : ms.length ≤ 10) (hq : q < 1024) (hs : Sub q s) : Closed d (restM s ms ms.length) q ↔ Closed d ms q := by
  unfold Closed
  rw [restM_len]
  exact ⟨fun h k hk => by rw [← restM_uns hk hl hq hs]; exact h k hk, fun h k hk => by rw [restM_uns hk hl hq hs]; exact h k hk⟩

/-- The greatest closed set in y of the restricted one is that in the common part. -/
theorem restM_gr {d x y D : Nat} {ms : List Mem} {G H : Nat} (hl : ms.length ≤ 10) (hG : G < 1024) (hH : H < 1024) (h1 : IsGr d (restM x ms ms.length) (y &&& (D &&& x)) G) (h2 : IsGr d ms ((x &&& y) &&& D) H) : G = H := by
  have g1 := (sub_and.1 (sub_and.1 h1.sub).2)
  have g2 := (sub_and.1 h1.sub).1
  have k1 := sub_and.1 h2.sub
  have k2 := sub_and.1 k1.1
  exact sub_antisymm (h2.most G hG (sub_and.2 ⟨sub_and.2 ⟨g1.2, g2⟩, g1.1⟩) ((restM_closed hl hG g1.2).1 h1.closed))
    (h1.most H hH (sub_and.2 ⟨k2.2, sub_and.2 ⟨k1.2, k2.1⟩⟩) ((restM_closed hl hH k2.1).2 h2.closed))

end Go.Proofs.Ytfghnkgllmofgaa
