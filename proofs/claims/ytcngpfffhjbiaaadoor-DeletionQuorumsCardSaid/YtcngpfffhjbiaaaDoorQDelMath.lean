/- Quorums and deletion. -/
import Derived.Test.YtcngpfffhjbiaaaDoorBase3
namespace Go.Proofs.YtcngpfffhjbiaaaDoor
set_option linter.unusedVariables false
set_option linter.unusedSimpArgs false
open Go.RowKit

theorem decl_one (s k : Nat) (m : Mem) : (delOne s k m).1 = (m.1 && !hasB (s : Int) (k : Int)) := by
  unfold delOne
  cases h : hasB (s : Int) (k : Int)
  · obtain ⟨b, T⟩ := m
    cases b <;> simp
  · simp
theorem decl_del {ms : List Mem} {s : Nat} (hl : ms.length ≤ 10) (hs : s < 1024) : declS (delM s ms) (delM s ms).length = minS (declS ms ms.length) s := by
  apply Nat.eq_of_testBit_eq
  intro k
  rw [minS_bit, declS_iff, declS_iff, delM_len]
  rcases Nat.lt_or_ge k ms.length with hk | hk
  · have hm : ms[k]? = some (ms[k]'hk) := List.getElem?_eq_getElem hk
    have hd := delM_get (s := s) hm
    rw [List.getD_eq_getElem?_getD, hd, List.getD_eq_getElem?_getD, hm]
    simp only [Option.getD_some, hk, decide_true, Bool.true_and]
    rw [decl_one, hasB_bit hs (by omega)]
  · rw [decide_eq_false (by omega)]; rfl
theorem trOf_get {ms : List Mem} {k : Nat} {m : Mem} (h : ms[k]? = some m) : trOf ms k = m.2 := by
  unfold trOf
  rw [List.getD_eq_getElem?_getD, h]; rfl
theorem mem_decl {ms : List Mem} {k : Nat} (h : (declS ms ms.length).testBit k = true) : ∃ m, ms[k]? = some m ∧ m.1 = true ∧ k < ms.length := by
  rw [declS_iff, Bool.and_eq_true] at h
  have hk := of_decide_eq_true h.1
  refine ⟨ms[k]'hk, List.getElem?_eq_getElem hk, ?_, hk⟩
  have := h.2
  rw [List.getD_eq_getElem?_getD, List.getElem?_eq_getElem hk] at this
  exact this
theorem trOf_del {ms : List Mem} {s k : Nat} {m : Mem} (hs : s < 1024) (hk : k < 10) (h : ms[k]? = some m) (hd : m.1 = true) (hb : s.testBit k = false) : trOf (delM s ms) k = delT s k 2 m.2 := by
  rw [trOf_get (delM_get h)]
  unfold delOne
  rw [hasB_bit hs hk, hb, hd]
  simp
theorem uns_iff {d : Nat} {ms : List Mem} {s k : Nat} (hs : s < 1024) (hk : k < 10) : uns d ms s k = (s.testBit k && !satB d (trOf ms k) (s : Int)) := by
  unfold uns
  rw [hasB_bit hs hk]
/-- What is left of a quorum is closed behind the deletion. -/
theorem closed_del {ms : List Mem} {s q : Nat} (hl : ms.length ≤ 10) (hs : s < 1024) (hq : q < 1024) (hok : MemsOk ms.length ms) (hsub : Sub q (declS ms ms.length)) (hc : Closed 2 ms q) : Closed 2 (delM s ms) (minS q s) := by
  intro k hk
  rw [delM_len] at hk
  have hk10 : k < 10 := by omega
  rw [uns_iff (minS_lt hq) hk10, minS_bit]
  cases hqk : q.testBit k
  · rfl
  · cases hsk : s.testBit k
    · obtain ⟨m, hm, hd, _⟩ := mem_decl (hsub k hqk)
      have hw := (hok m (List.mem_of_getElem? hm)).1 hd
      have h1 := hc k hk
      rw [uns_iff hq hk10, hqk, trOf_get hm, Bool.true_and, Bool.not_eq_false'] at h1
      rw [trOf_del hs hk10 hm hd hsk, del_grows (n := ms.length) (by omega) hw hs hq hk10 hqk hsk h1]
      rfl
    · rfl
/-- Is each member of y, below k, satisfied by o? -/
def allF (ms : List Mem) (y o : Nat) (b : Bool) : Nat → Bool
  | 0 => b
  | k + 1 => allF ms y o b k && !(y.testBit k && !satB 2 (trOf ms k) (o : Int))
theorem allF_iff {ms : List Mem} {y o : Nat} {b : Bool} : ∀ n, allF ms y o b n = true ↔ b = true ∧ ∀ k, k < n → y.testBit k = true → satB 2 (trOf ms k) (o : Int) = true
  | 0 => by simp [allF]
  | n + 1 => by
    rw [allF, Bool.and_eq_true, allF_iff n]
    constructor
    · rintro ⟨⟨h1, h2⟩, h3⟩
      refine ⟨h1, fun k hk hy => ?_⟩
      rcases Nat.lt_or_ge k n with h | h
      · exact h2 k h hy
      · obtain rfl : k = n := by omega
        simpa [hy] using h3
    · rintro ⟨h1, h2⟩
      refine ⟨⟨h1, fun k hk hy => h2 k (by omega) hy⟩, ?_⟩
      cases hy : y.testBit n
      · simp
      · simp [h2 n (by omega) hy]
/-- A set without deleted nodes is a quorum behind the deletion exactly if each of its nodes is satisfied by it with the deleted nodes. -/
theorem quor_del {ms : List Mem} {s y o : Nat} {b : Bool} (hl : ms.length ≤ 10) (hs : s < 1024) (hy : y < 1024) (ho : y ||| s = o) (hys : ∀ k, y.testBit k = true → s.testBit k = false) (hok : MemsOk ms.length ms)
    (hb : b = true ↔ y ≠ 0 ∧ Sub y (declS (delM s ms) (delM s ms).length) ∧ Closed 2 (delM s ms) y) (c : Bool) (hc : c = true ↔ y ≠ 0 ∧ Sub y (declS ms ms.length)) : b = allF ms y o c ms.length := by
  rw [Bool.eq_iff_iff, hb, allF_iff, hc]
  have hol : o < 1024 := by rw [← ho]; exact Nat.or_lt_two_pow (n := 10) hy hs
  have hsub : Sub y (declS (delM s ms) (delM s ms).length) ↔ Sub y (declS ms ms.length) := by
    rw [decl_del hl hs]
    constructor
    · intro h k hk
      have := h k hk
      rw [minS_bit, Bool.and_eq_true] at this
      exact this.1
    · intro h k hk
      rw [minS_bit, h k hk, hys k hk]; rfl
  rw [hsub]
  have key : ∀ k, Sub y (declS ms ms.length) → k < ms.length → y.testBit k = true → satB 2 (trOf (delM s ms) k) (y : Int) = satB 2 (trOf ms k) (o : Int) := fun k hD hk hyk => by
    have hk10 : k < 10 := by omega
    obtain ⟨m, hm, hd, _⟩ := mem_decl (hD k hyk)
    have hw := (hok m (List.mem_of_getElem? hm)).1 hd
    rw [trOf_del hs hk10 hm hd (hys k hyk), trOf_get hm]
    exact del_means (n := ms.length) (by omega) hw hs hy hol hk10 hyk (fun K _ => by rw [← ho, Nat.testBit_or, Bool.or_comm])
  constructor
  · rintro ⟨h1, h2, h3⟩
    refine ⟨⟨h1, h2⟩, fun k hk hyk => ?_⟩
    have h4 := h3 k (by rw [delM_len]; exact hk)
    rw [uns_iff hy (by omega), hyk, Bool.true_and, Bool.not_eq_false'] at h4
    rw [← key k h2 hk hyk]; exact h4
  · rintro ⟨⟨h1, h2⟩, h3⟩
    refine ⟨h1, h2, fun k hk => ?_⟩
    rw [delM_len] at hk
    rw [uns_iff hy (by omega)]
    cases hyk : y.testBit k
    · rfl
    · rw [key k h2 hk hyk, h3 k hk hyk]; rfl
theorem sub_and_eq {y D : Nat} : y &&& D = y ↔ Sub y D := by
  constructor
  · intro h k hk
    rw [← h, Nat.testBit_and, Bool.and_eq_true] at hk
    exact hk.2
  · intro h
    apply Nat.eq_of_testBit_eq
    intro k
    rw [Nat.testBit_and]
    cases hk : y.testBit k
    · rfl
    · rw [h k hk]; rfl
end Go.Proofs.YtcngpfffhjbiaaaDoor
