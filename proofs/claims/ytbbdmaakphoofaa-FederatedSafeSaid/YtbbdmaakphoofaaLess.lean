/- Deletion: the mathematics of a trust without the nodes of a set, and of federated confirmation in a configuration with intersection despite a set. -/
import Derived.Test.YtbbdmaakphoofaaRefHolds
import Derived.Test.YtbbdmaakphoofaaFed
namespace Go.Proofs.Ytbbdmaakphoofaa
set_option linter.unusedVariables false
set_option linter.unusedSimpArgs false
open Go.RowKit

def thrOf : Tree → Int | .mk t _ _ => t
def deadT (T : Tree) : Bool := decide (thrOf T ≤ 0)
/-- A trust without the nodes of a set. -/
def lessT (s : Nat) : Nat → Tree → Tree
  | 0, T => T
  | d + 1, .mk thr ns is => .mk ((thr.toNat - cnt (hasB (s : Int)) ns - cnt deadT (is.map (lessT s d)) : Nat) : Int) (ns.filter (fun k => !hasB (s : Int) k)) ((is.map (lessT s d)).filter (fun T => !deadT T))
/-- A trust after the deletion of a set at a node. -/
def delT (s k d : Nat) (T : Tree) : Tree := if deadT (lessT s d T) then .mk 1 [(k : Int)] [] else lessT s d T
def delOne (s k : Nat) (m : Mem) : Mem := if hasB (s : Int) (k : Int) then (false, .mk 0 [] []) else if m.1 then (true, delT s k 2 m.2) else m
def delM (s : Nat) (ms : List Mem) : List Mem := ms.mapIdx (fun k m => delOne s k m)
theorem delM_len (s : Nat) (ms : List Mem) : (delM s ms).length = ms.length := by unfold delM; simp
theorem delM_get {s : Nat} {ms : List Mem} {k : Nat} {m : Mem} (h : ms[k]? = some m) : (delM s ms)[k]? = some (delOne s k m) := by
  unfold delM
  rw [List.getElem?_mapIdx, h]; rfl

theorem cnt_split {α β : Type} (P : α → Bool) (f : α → β) (dead good : β → Bool) : ∀ (l : List α), (∀ x ∈ l, P x = true → dead (f x) = true ∨ good (f x) = true) → cnt P l ≤ cnt dead (l.map f) + cnt good ((l.map f).filter (fun y => !dead y))
  | [], _ => by simp [cnt]
  | x :: l, h => by
    have ih := cnt_split P f dead good l (fun y hy => h y (List.mem_cons_of_mem _ hy))
    have h1 := h x List.mem_cons_self
    unfold cnt at *
    rw [List.map_cons, List.filter_cons, List.filter_cons, List.filter_cons]
    cases hd : dead (f x)
    · cases hp : P x
      · simp
        cases hg : good (f x) <;> simp [List.filter_cons, hg] <;> simp at ih <;> omega
      · have hg : good (f x) = true := by
          rcases h1 hp with h2 | h2
          · rw [hd] at h2; cases h2
          · exact h2
        simp [List.filter_cons, hg]
        simp at ih
        omega
    · cases hp : P x
      · simp; simp at ih; omega
      · simp; simp at ih; omega
theorem cnt_two {α : Type} (p : α → Bool) (l : List α) : cnt p l + (l.filter (fun x => !p x)).length = l.length := by
  induction l with
  | nil => rfl
  | cons x l ih =>
    unfold cnt at *
    rw [List.filter_cons, List.filter_cons]
    cases hp : p x
    · simp; omega
    · simp; omega

theorem less_holds {n : Int} {s : Nat} {p q : Int → Bool} (h : ∀ x, p x = true → hasB (s : Int) x = false → q x = true) : ∀ (d : Nat) (T : Tree), WF n d T → holdsT d p T = true → deadT (lessT s d T) = true ∨ holdsT d q (lessT s d T) = true
  | 0, T, w, _ => w.elim
  | d + 1, .mk thr ns is, w, hh => by
    obtain ⟨h1, _, _, _, _, _, hi⟩ := w
    have hh : thr ≤ ((cnt p ns + cnt (holdsT d p) is : Nat) : Int) := of_decide_eq_true hh
    have e1 := cnt_split p id (hasB (s : Int)) q ns (fun x _ hp => by
      cases hb : hasB (s : Int) x
      · exact .inr (h x hp hb)
      · exact .inl hb)
    have e2 := cnt_split (holdsT d p) (lessT s d) deadT (holdsT d q) is (fun T hT hp => less_holds h d T (hi T hT) hp)
    rw [List.map_id] at e1
    show decide ((((thr.toNat - cnt (hasB (s : Int)) ns - cnt deadT (is.map (lessT s d)) : Nat)) : Int) ≤ 0) = true ∨ decide ((((thr.toNat - cnt (hasB (s : Int)) ns - cnt deadT (is.map (lessT s d)) : Nat)) : Int) ≤ ((cnt q (ns.filter (fun k => !hasB (s : Int) k)) + cnt (holdsT d q) ((is.map (lessT s d)).filter (fun T => !deadT T)) : Nat) : Int)) = true
    right
    refine decide_eq_true ?_
    omega
theorem less_wf {n : Int} {s : Nat} : ∀ (d : Nat) (T : Tree), WF n d T → deadT (lessT s d T) = false → WF n d (lessT s d T)
  | 0, T, w, _ => w.elim
  | d + 1, .mk thr ns is, w, hd => by
    obtain ⟨h1, h2, h3, h4, h5, h6, hi⟩ := w
    have hd : ¬ (((thr.toNat - cnt (hasB (s : Int)) ns - cnt deadT (is.map (lessT s d)) : Nat)) : Int) ≤ 0 := of_decide_eq_false hd
    have e1 := cnt_two (hasB (s : Int)) ns
    have e2 := cnt_two deadT (is.map (lessT s d))
    rw [List.length_map] at e2
    refine ⟨by omega, by omega, Nat.le_trans (List.length_filter_le _ _) h3, by omega, fun x hx => h5 x (List.mem_filter.1 hx).1, h6.filter _, fun T hT => ?_⟩
    obtain ⟨hm, hdt⟩ := List.mem_filter.1 hT
    obtain ⟨T0, h0, rfl⟩ := List.mem_map.1 hm
    exact less_wf d T0 (hi T0 h0) (by simpa using hdt)

theorem delT_wf {n : Int} {s k d : Nat} {T : Tree} (hk : (k : Int) < n) (h : WF n (d + 1) T) : WF n (d + 1) (delT s k (d + 1) T) := by
  unfold delT
  cases hd : deadT (lessT s (d + 1) T)
  · exact less_wf _ _ h hd
  · exact (Fine.single (D := d) (n := n) (r := (k : Int)) (by omega) hk).1
theorem delM_ok {s : Nat} {ms : List Mem} (h : MemsOk ms.length ms) : MemsOk (delM s ms).length (delM s ms) := by
  intro x hx
  obtain ⟨k, hk, he⟩ := List.getElem_of_mem hx
  rw [delM_len] at hk ⊢
  have hm : ms[k]? = some ms[k] := List.getElem?_eq_getElem hk
  have h1 := delM_get (s := s) hm
  rw [List.getElem?_eq_getElem (by rw [delM_len]; exact hk), he] at h1
  have hx1 : x = delOne s k ms[k] := Option.some.inj h1
  have h0 := h ms[k] (List.getElem_mem hk)
  rw [hx1]
  unfold delOne
  cases hb : hasB (s : Int) (k : Int)
  · simp only [Bool.false_eq_true, if_false]
    cases hd : ms[k].1
    · simp only [Bool.false_eq_true, if_false]; exact h0
    · simp only [if_true]
      exact ⟨fun _ => delT_wf (by omega) (h0.1 hd), fun h => (by cases h)⟩
  · simp only [if_true]
    exact ⟨fun h => (by cases h), fun _ => trivial⟩

theorem declS_iff {ms : List Mem} (k : Nat) : ∀ (n : Nat), (declS ms n).testBit k = (decide (k < n) && (ms.getD k (false, .mk 0 [] [])).1)
  | 0 => by simp [declS]
  | n + 1 => by
    have ih := declS_iff (ms := ms) k n
    unfold declS
    by_cases hkn : k = n
    · subst hkn
      cases hd : (ms.getD k (false, .mk 0 [] [])).1
      · rw [if_neg (by simp), ih]; simp [hd]
      · rw [if_pos rfl, Nat.testBit_or, Nat.testBit_two_pow_self]; simp
    · have e : decide (k < n + 1) = decide (k < n) := by rw [decide_eq_decide]; omega
      rw [e]
      split
      · rw [Nat.testBit_or, ih, Nat.testBit_two_pow_of_ne (by omega)]; simp
      · exact ih

def minS (q s : Nat) : Nat := q ^^^ (q &&& s)
theorem minS_bit (q s k : Nat) : (minS q s).testBit k = (q.testBit k && !s.testBit k) := by
  unfold minS
  rw [Nat.testBit_xor, Nat.testBit_and]
  cases q.testBit k <;> cases s.testBit k <;> rfl
theorem minS_lt {q s : Nat} (h : q < 1024) : minS q s < 1024 := Nat.xor_lt_two_pow (n := 10) h (Nat.lt_of_le_of_lt Nat.and_le_left h)

/-- A closed set of a configuration that differs from another one only in a set is, without it, closed after its deletion. -/
theorem shown_closed {ms xs : List Mem} {s Q : Nat} (hl : ms.length ≤ 10) (hx : xs.length = ms.length) (hs : s < 1024) (hQ : Q < 1024) (hok : MemsOk ms.length ms)
    (hsame : ∀ k, k < ms.length → s.testBit k = false → xs[k]? = ms[k]?) (hsub : Sub Q (declS xs xs.length)) (hc : Closed 2 xs Q) :
    Sub (minS Q s) (declS (delM s ms) (delM s ms).length) ∧ Closed 2 (delM s ms) (minS Q s) := by
  have key : ∀ k, (minS Q s).testBit k = true → k < ms.length ∧ ∃ m, ms[k]? = some m ∧ xs[k]? = some m ∧ m.1 = true ∧ hasB (s : Int) (k : Int) = false ∧ Q.testBit k = true := by
    intro k hk
    rw [minS_bit, Bool.and_eq_true, Bool.not_eq_true'] at hk
    have h1 := hsub k hk.1
    rw [declS_iff, Bool.and_eq_true, decide_eq_true_eq, hx] at h1
    have hm : ms[k]? = some ms[k] := List.getElem?_eq_getElem h1.1
    have hxk := (hsame k h1.1 hk.2).trans hm
    have h2 := h1.2
    rw [List.getD_eq_getElem?_getD, hxk] at h2
    exact ⟨h1.1, ms[k], hm, hxk, h2, by rw [hasB_bit hs (by omega)]; exact hk.2, hk.1⟩
  constructor
  · intro k hk
    obtain ⟨h1, m, hm, _, hd, hb, _⟩ := key k hk
    rw [declS_iff, Bool.and_eq_true, decide_eq_true_eq, delM_len, List.getD_eq_getElem?_getD, delM_get hm]
    refine ⟨h1, ?_⟩
    show (delOne s k m).1 = true
    unfold delOne
    rw [hb, hd]; rfl
  · intro k hk
    rw [delM_len] at hk
    unfold uns
    cases hbk : (minS Q s).testBit k
    · rw [hasB_bit (minS_lt hQ) (by omega), hbk]; rfl
    · obtain ⟨_, m, hm, hxm, hd, hb, hQk⟩ := key k hbk
      have ht : trOf (delM s ms) k = delT s k 2 m.2 := by
        unfold trOf
        rw [List.getD_eq_getElem?_getD, delM_get hm]
        show (delOne s k m).2 = _
        unfold delOne
        rw [hb, hd]; rfl
      have hcx := hc k (by omega)
      unfold uns at hcx
      have htx : trOf xs k = m.2 := by unfold trOf; rw [List.getD_eq_getElem?_getD, hxm]; rfl
      rw [htx, hasB_bit hQ (by omega), hQk, Bool.true_and, Bool.not_eq_false'] at hcx
      rw [ht]
      have hsat : satB 2 (delT s k 2 m.2) ((minS Q s : Nat) : Int) = true := by
        have hv : setB ((minS Q s : Nat) : Int) = true := setB_iff.2 ⟨by omega, by have := minS_lt (s := s) hQ; omega⟩
        unfold satB at hcx ⊢
        rw [Bool.and_eq_true] at hcx ⊢
        refine ⟨hv, ?_⟩
        have hpq : ∀ x : Int, hasB (Q : Int) x = true → hasB (s : Int) x = false → hasB ((minS Q s : Nat) : Int) x = true := by
          intro x hx1 hx2
          have hx1' := hx1
          unfold hasB at hx1
          rw [Bool.and_eq_true, Bool.and_eq_true] at hx1
          obtain ⟨h0, h10⟩ := nodeB_iff.1 hx1.2.1
          obtain ⟨X, rfl⟩ := Int.eq_ofNat_of_zero_le h0
          rw [hasB_bit hQ (by omega)] at hx1'
          rw [hasB_bit hs (by omega)] at hx2
          rw [hasB_bit (minS_lt hQ) (by omega), minS_bit, hx1', hx2]; rfl
        have hw := (hok m (List.mem_of_getElem? hm)).1 hd
        unfold delT
        cases hdd : deadT (lessT s 2 m.2)
        · rw [if_neg (by simp)]
          rcases less_holds hpq 2 m.2 hw hcx.2 with h3 | h3
          · rw [hdd] at h3; cases h3
          · exact h3
        · rw [if_pos rfl]
          refine decide_eq_true ?_
          have hkb : hasB ((minS Q s : Nat) : Int) (k : Int) = true := by rw [hasB_bit (minS_lt hQ) (by omega)]; exact hbk
          have : cnt (hasB ((minS Q s : Nat) : Int)) [(k : Int)] = 1 := by unfold cnt; rw [List.filter_cons, hkb]; rfl
          rw [this]
          simp
          omega
      rw [hsat]; simp

/-- T1. -/
theorem fed_safe {ms xs ys : List Mem} {s v w a b : Nat} (hl : ms.length ≤ 10) (hx : xs.length = ms.length) (hy : ys.length = ms.length) (hs : s < 1024) (hok : MemsOk ms.length ms)
    (hxs : ∀ k, k < ms.length → s.testBit k = false → xs[k]? = ms[k]?) (hys : ∀ k, k < ms.length → s.testBit k = false → ys[k]? = ms[k]?)
    (hno : ∀ t, ¬ Apart 2 (delM s ms) t) (hv : s.testBit v = false) (hw : s.testBit w = false) (h1 : cnfB 2 xs v a = true) (h2 : cnfB 2 ys w b = true) :
    ∃ k, a.testBit k = true ∧ b.testBit k = true ∧ s.testBit k = false := by
  obtain ⟨Q, hQ, q1, q2, q3⟩ := rdyB_iff.1 h1
  obtain ⟨R, hR, r1, r2, r3⟩ := rdyB_iff.1 h2
  obtain ⟨c1, c2⟩ := shown_closed hl hx hs hQ hok hxs (fun k hk => by have := q1 k hk; rw [Nat.testBit_and, Bool.and_eq_true] at this; exact this.2) q2
  obtain ⟨c3, c4⟩ := shown_closed hl hy hs hR hok hys (fun k hk => by have := r1 k hk; rw [Nat.testBit_and, Bool.and_eq_true] at this; exact this.2) r2
  refine Classical.byContradiction (fun hn => hno (minS Q s) ⟨⟨?_, c1, c2⟩, minS R s, minS_lt hR, ?_, ?_, c4⟩)
  · intro h0
    have : (minS Q s).testBit v = true := by rw [minS_bit, q3, hv]; rfl
    rw [h0] at this; simp at this
  · intro h0
    have : (minS R s).testBit w = true := by rw [minS_bit, r3, hw]; rfl
    rw [h0] at this; simp at this
  · intro k hk
    have hd := c3 k hk
    have hkl := declS_bit hd
    rw [Nat.testBit_and, Bool.and_eq_true, outS_bit, Bool.and_eq_true, decide_eq_true_eq, Bool.not_eq_true']
    refine ⟨⟨hkl, ?_⟩, hd⟩
    cases hq : (minS Q s).testBit k
    · rfl
    · exfalso
      rw [minS_bit, Bool.and_eq_true, Bool.not_eq_true'] at hq hk
      have e1 := q1 k hq.1
      have e2 := r1 k hk.1
      rw [Nat.testBit_and, Bool.and_eq_true] at e1 e2
      exact hn ⟨k, e1.1, e2.1, hq.2⟩
end Go.Proofs.Ytbbdmaakphoofaa
