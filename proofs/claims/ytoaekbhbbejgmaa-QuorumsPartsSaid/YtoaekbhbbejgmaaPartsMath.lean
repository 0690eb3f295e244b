/- The parts divide the declared members, and each minimal quorum lies in one of them. -/
import Derived.Test.YtoaekbhbbejgmaaParts
import Derived.Test.YtoaekbhbbejgmaaQMin
import Derived.Test.YtoaekbhbbejgmaaUsesMath
namespace Go.Proofs.Ytoaekbhbbejgmaa
set_option linter.unusedVariables false
set_option linter.unusedSimpArgs false
open Go.RowKit

def bitR (R : List Nat) (i j : Nat) : Bool := (R.getD i 0).testBit j
theorem getD_set (R : List Nat) (k x j : Nat) : (R.set k x).getD j 0 = if k = j ∧ k < R.length then x else R.getD j 0 := by
  rw [List.getD_eq_getElem?_getD, List.getD_eq_getElem?_getD, List.getElem?_set]
  by_cases h : k = j
  · subst h
    by_cases h2 : k < R.length
    · simp [h2]
    · simp [h2]
  · simp [h]
theorem wkS_len (b : Nat) (R : List Nat) : ∀ k, (wkS b R k).length = R.length
  | 0 => rfl
  | k + 1 => by
    unfold wkS
    split
    · rw [List.length_set]; exact wkS_len b R k
    · exact wkS_len b R k
theorem wkS_get (b : Nat) (R : List Nat) : ∀ k, k ≤ R.length → ∀ j, (wkS b R k).getD j 0 = if j < k ∧ bitR R j b = true then R.getD j 0 ||| R.getD b 0 else R.getD j 0
  | 0, _, j => by simp [wkS]
  | k + 1, hk, j => by
    have ih := wkS_get b R k (by omega)
    have hlen := wkS_len b R k
    have hqk : (wkS b R k).getD k 0 = R.getD k 0 := by rw [ih k]; simp
    have hqb : (wkS b R k).getD b 0 = R.getD b 0 := by
      rw [ih b]
      split
      · exact Nat.or_self _
      · rfl
    unfold wkS
    rw [hqk, hqb]
    by_cases hb : (R.getD k 0).testBit b = true
    · rw [if_pos hb, getD_set, hlen]
      by_cases hj : k = j
      · subst hj
        rw [if_pos ⟨rfl, by omega⟩, if_pos ⟨by omega, hb⟩]
      · rw [if_neg (by intro h; exact hj h.1), ih j]
        by_cases h1 : j < k
        · simp [h1, show j < k + 1 by omega]
        · simp [h1, show ¬ j < k + 1 by omega]
    · rw [if_neg hb, ih j]
      by_cases hj : k = j
      · subst hj
        have : ¬ bitR R k b = true := hb
        simp [this]
      · by_cases h1 : j < k
        · simp [h1, show j < k + 1 by omega]
        · simp [h1, show ¬ j < k + 1 by omega]
theorem getD_ge {R : List Nat} {i : Nat} (h : R.length ≤ i) : R.getD i 0 = 0 := by
  rw [List.getD_eq_getElem?_getD, List.getElem?_eq_none h]; rfl
/-- One more node in between. -/
theorem phase_bit (b : Nat) (R : List Nat) (i j : Nat) : bitR (wkS b R R.length) i j = (bitR R i j || (bitR R i b && bitR R b j)) := by
  unfold bitR
  rw [wkS_get b R R.length (Nat.le_refl _)]
  by_cases hi : i < R.length
  · by_cases hb : bitR R i b = true
    · rw [if_pos ⟨hi, hb⟩, Nat.testBit_or]
      unfold bitR at hb
      rw [hb, Bool.true_and]
    · rw [if_neg (by intro h; exact hb h.2)]
      have hb2 : (R.getD i 0).testBit b = false := by
        cases h : (R.getD i 0).testBit b
        · rfl
        · exact (hb h).elim
      rw [hb2]; simp
  · rw [if_neg (by intro h; exact hi h.1), getD_ge (by omega)]
    simp
def Thru (b : Nat) (R : List Nat) : Prop := ∀ m, m < b → ∀ i j, bitR R i m = true → bitR R m j = true → bitR R i j = true
theorem Thru.step {b : Nat} {R : List Nat} (h : Thru b R) : Thru (b + 1) (wkS b R R.length) := by
  intro m hm i j h1 h2
  rw [phase_bit] at h1 h2 ⊢
  simp only [Bool.or_eq_true, Bool.and_eq_true] at h1 h2 ⊢
  by_cases hmb : m = b
  · subst hmb
    rcases h1 with h1 | ⟨h1, _⟩ <;> rcases h2 with h2 | ⟨_, h2⟩ <;> exact .inr ⟨h1, h2⟩
  · have hmb : m < b := by omega
    rcases h1 with h1 | ⟨h1, h3⟩ <;> rcases h2 with h2 | ⟨h2, h4⟩
    · exact .inl (h m hmb i j h1 h2)
    · exact .inr ⟨h m hmb i b h1 h2, h4⟩
    · exact .inr ⟨h1, h m hmb b j h3 h2⟩
    · exact .inr ⟨h1, h4⟩
theorem wbS_len (n : Nat) (R : List Nat) : ∀ b, (wbS n R b).length = R.length
  | 0 => rfl
  | b + 1 => by unfold wbS; rw [wkS_len]; exact wbS_len n R b
theorem wbS_thru {n : Nat} {R : List Nat} (hn : R.length = n) : ∀ b, Thru b (wbS n R b)
  | 0 => fun m hm => by omega
  | b + 1 => by
    have := (wbS_thru hn b).step
    rw [wbS_len, hn] at this
    exact this
theorem wbS_mono {n : Nat} {R : List Nat} (hn : R.length = n) {i j : Nat} (h : bitR R i j = true) : ∀ b, bitR (wbS n R b) i j = true
  | 0 => h
  | b + 1 => by
    have ih := wbS_mono hn h b
    have h2 := phase_bit b (wbS n R b) i j
    rw [wbS_len, hn] at h2
    show bitR (wkS b (wbS n R b) n) i j = true
    rw [h2, ih]; rfl
/-- Who is reached by whom. -/
structure ReachOk (ms : List Mem) (R : List Nat) : Prop where
  lt : ∀ i j, bitR R i j = true → i < ms.length ∧ j < ms.length ∧ (declS ms ms.length).testBit j = true
  trans : ∀ i j k, bitR R i j = true → bitR R j k = true → bitR R i k = true
  edge : ∀ i j, i < ms.length → (r0S ms i).testBit j = true → bitR R i j = true
theorem reachS_good (ms : List Mem) (hl : ms.length ≤ 10) : ReachOk ms (reachS ms) := by
  have hlen := rows1_len ms ms.length
  have hlt : ∀ i j, bitR (reachS ms) i j = true → i < ms.length ∧ j < ms.length ∧ (declS ms ms.length).testBit j = true := fun i j h => by
    have h1 : ∀ x ∈ reachS ms, ∀ j, x.testBit j = true → (declS ms ms.length).testBit j = true := by
      refine wbS_p (p := fun x => ∀ j, x.testBit j = true → (declS ms ms.length).testBit j = true) (fun j hj => by simp at hj) (fun a b ha hb j hj => by
        rw [Nat.testBit_or, Bool.or_eq_true] at hj
        exact hj.elim (ha j) (hb j)) (fun x hx j hj => ?_) _
      obtain ⟨k, _, rfl⟩ := List.mem_map.1 hx
      split at hj
      · unfold r0S at hj
        rw [Nat.testBit_and, Bool.and_eq_true] at hj
        exact hj.2
      · simp at hj
    have hi : i < ms.length := by
      rcases Nat.lt_or_ge i ms.length with h2 | h2
      · exact h2
      · unfold bitR at h
        rw [getD_ge (by unfold reachS; rw [wbS_len, hlen]; exact h2)] at h
        simp at h
    have hd := getD_p (p := fun x => ∀ j, x.testBit j = true → (declS ms ms.length).testBit j = true) (fun j hj => by simp at hj) h1 i j h
    exact ⟨hi, declS_bit hd, hd⟩
  refine ⟨hlt, fun i j k h1 h2 => ?_, fun i j hi h => ?_⟩
  · exact wbS_thru hlen ms.length j (hlt i j h1).2.1 i k h1 h2
  · refine wbS_mono hlen ?_ ms.length
    unfold bitR rows1
    rw [List.getD_eq_getElem?_getD, List.getElem?_map, List.getElem?_range hi]
    simp [hi, h]

/-- The same node, or each reaches the other. -/
def Eqv (R : List Nat) (i j : Nat) : Prop := i = j ∨ (bitR R i j = true ∧ bitR R j i = true)
theorem Eqv.symm {R : List Nat} {i j : Nat} (h : Eqv R i j) : Eqv R j i := by
  rcases h with h | ⟨h1, h2⟩
  · exact .inl h.symm
  · exact .inr ⟨h2, h1⟩
theorem Eqv.trans {ms : List Mem} {R : List Nat} (hR : ReachOk ms R) {i j k : Nat} (h1 : Eqv R i j) (h2 : Eqv R j k) : Eqv R i k := by
  rcases h1 with h1 | ⟨h1, h3⟩
  · subst h1; exact h2
  · rcases h2 with h2 | ⟨h2, h4⟩
    · subst h2; exact .inr ⟨h1, h3⟩
    · exact .inr ⟨hR.trans _ _ _ h1 h2, hR.trans _ _ _ h4 h3⟩
theorem foldPart_bit (R : List Nat) (k o : Nat) : ∀ (l : List Int) (a : Nat), Nod l → ((l.foldl (fun p x => if (R.getD x.toNat 0).testBit k then p ||| 2 ^ x.toNat else p) a).testBit o = true ↔ (a.testBit o = true ∨ ((o : Int) ∈ l ∧ bitR R o k = true)))
  | [], a, _ => by simp
  | x :: l, a, hn => by
    obtain ⟨j, rfl, hj⟩ := hn x (by simp)
    rw [List.foldl_cons, foldPart_bit R k o l _ (fun y hy => hn y (List.mem_cons_of_mem _ hy))]
    simp only [Int.toNat_natCast, List.mem_cons]
    by_cases hb : (R.getD j 0).testBit k = true
    · rw [if_pos hb, Nat.testBit_or, Nat.testBit_two_pow, Bool.or_eq_true, decide_eq_true_iff]
      constructor
      · rintro ((h | h) | ⟨h1, h2⟩)
        · exact .inl h
        · subst h; exact .inr ⟨.inl rfl, hb⟩
        · exact .inr ⟨.inr h1, h2⟩
      · rintro (h | ⟨h | h1, h2⟩)
        · exact .inl (.inl h)
        · exact .inl (.inr (Int.ofNat.inj h).symm)
        · exact .inr ⟨h1, h2⟩
    · rw [if_neg hb]
      constructor
      · rintro (h | ⟨h1, h2⟩)
        · exact .inl h
        · exact .inr ⟨.inr h1, h2⟩
      · rintro (h | ⟨h | h1, h2⟩)
        · exact .inl h
        · have := Int.ofNat.inj h; subst this; exact (hb h2).elim
        · exact .inr ⟨h1, h2⟩
theorem partS_bit {ms : List Mem} {R : List Nat} (hl : ms.length ≤ 10) (hR : ReachOk ms R) (k o : Nat) : (partS R k (nodL (R.getD k 0) 10)).testBit o = true ↔ Eqv R k o := by
  unfold partS
  rw [foldPart_bit R k o _ _ (nodL_nod _), Nat.testBit_two_pow, decide_eq_true_iff]
  constructor
  · rintro (h | ⟨h1, h2⟩)
    · exact .inl h
    · obtain ⟨j, hj, _, hb⟩ := (nodL_mem _ _ _).1 h1
      obtain rfl := Int.ofNat.inj hj
      exact .inr ⟨hb, h2⟩
  · rintro (h | ⟨h1, h2⟩)
    · exact .inl h
    · exact .inr ⟨(nodL_mem _ _ _).2 ⟨o, rfl, by have := (hR.lt _ _ h1).2.1; omega, h1⟩, h2⟩
/-- What the parts are, so far. -/
structure PartsOk (ms : List Mem) (R : List Nat) (st : List Nat × Nat) : Prop where
  all : st.1.foldl (· ||| ·) 0 = st.2
  each : ∀ y ∈ st.1, ∃ k, y.testBit k = true ∧ ∀ o, y.testBit o = true ↔ Eqv R k o
  apart : ∀ i y, st.1[i]? = some y → y ≠ 0 ∧ (st.1.take i).foldl (· ||| ·) 0 &&& y = 0
  decl : ∀ o, st.2.testBit o = true → (declS ms ms.length).testBit o = true
theorem foldOr_iff : ∀ (l : List Nat) (a o : Nat), (l.foldl (· ||| ·) a).testBit o = true ↔ (a.testBit o = true ∨ ∃ y ∈ l, y.testBit o = true)
  | [], a, o => by simp
  | x :: l, a, o => by
    rw [List.foldl_cons, foldOr_iff l, Nat.testBit_or, Bool.or_eq_true]
    simp only [List.mem_cons]
    constructor
    · rintro ((h | h) | ⟨y, h1, h2⟩)
      · exact .inl h
      · exact .inr ⟨x, .inl rfl, h⟩
      · exact .inr ⟨y, .inr h1, h2⟩
    · rintro (h | ⟨y, h1 | h1, h2⟩)
      · exact .inl (.inl h)
      · subst h1; exact .inl (.inr h2)
      · exact .inr ⟨y, h1, h2⟩
theorem eq_zero_of {a : Nat} (h : ∀ i, a.testBit i = false) : a = 0 := Nat.eq_of_testBit_eq (fun i => by rw [h i, Nat.zero_testBit])
theorem PartsOk.step {ms : List Mem} {R : List Nat} (hl : ms.length ≤ 10) (hR : ReachOk ms R) {st : List Nat × Nat} (h : PartsOk ms R st) {k : Nat} (hk : (declS ms ms.length).testBit k = true) : PartsOk ms R (stepP R st (k : Int)) ∧ (stepP R st (k : Int)).2.testBit k = true ∧ ∀ o, st.2.testBit o = true → (stepP R st (k : Int)).2.testBit o = true := by
  unfold stepP
  simp only [Int.toNat_natCast]
  by_cases hb : st.2.testBit k = true
  · rw [if_pos hb]
    exact ⟨h, hb, fun _ h => h⟩
  · rw [if_neg hb]
    have hp := partS_bit hl hR k
    generalize hpp : partS R k (nodL (R.getD k 0) 10) = p at *
    have hpk : p.testBit k = true := (hp k).2 (.inl rfl)
    refine ⟨⟨?_, ?_, ?_, ?_⟩, ?_, ?_⟩
    · simp only [List.foldl_append, List.foldl_cons, List.foldl_nil, h.all]
    · intro y hy
      rcases List.mem_append.1 hy with hy | hy
      · exact h.each y hy
      · rw [List.mem_singleton] at hy
        subst hy
        exact ⟨k, hpk, hp⟩
    · intro i y hy
      rcases Nat.lt_or_ge i st.1.length with hi | hi
      · rw [List.getElem?_append_left hi] at hy
        rw [List.take_append_of_le_length (by omega)]
        exact h.apart i y hy
      · have hil : i = st.1.length := by
          have := (List.getElem?_eq_some_iff.1 hy).1
          simp at this; omega
        subst hil
        have hy2 : y = p := by
          rw [List.getElem?_append_right (by omega)] at hy
          simpa using hy.symm
        subst hy2
        rw [List.take_append_of_le_length (by omega), List.take_length, h.all]
        refine ⟨fun e => by rw [e] at hpk; simp at hpk, eq_zero_of (fun i => ?_)⟩
        rw [Nat.testBit_and]
        cases h1 : st.2.testBit i
        · rfl
        · cases h2 : y.testBit i
          · rfl
          · exfalso
            rw [← h.all, foldOr_iff] at h1
            rcases h1 with h1 | ⟨q, hq, hqi⟩
            · simp at h1
            · obtain ⟨k0, _, hq2⟩ := h.each q hq
              have e1 := (hq2 i).1 hqi
              have e2 := ((hp i).1 h2).symm
              have e3 := (hq2 k).2 (e1.trans hR e2)
              exact hb (by rw [← h.all, foldOr_iff]; exact .inr ⟨q, hq, e3⟩)
    · intro o ho
      rw [Nat.testBit_or, Bool.or_eq_true] at ho
      rcases ho with ho | ho
      · exact h.decl o ho
      · rcases (hp o).1 ho with h1 | ⟨h1, _⟩
        · subst h1; exact hk
        · exact (hR.lt _ _ h1).2.2
    · rw [Nat.testBit_or, hpk]; simp
    · intro o ho
      rw [Nat.testBit_or, ho]; rfl
theorem partsS_good {ms : List Mem} {R : List Nat} (hl : ms.length ≤ 10) (hR : ReachOk ms R) : ∀ (l : List Int), (∀ x ∈ l, ∃ k : Nat, x = (k : Int) ∧ (declS ms ms.length).testBit k = true) → PartsOk ms R (partsS R l) ∧ ∀ k : Nat, (k : Int) ∈ l → (partsS R l).2.testBit k = true := by
  have key : ∀ (l : List Int) (st : List Nat × Nat), (∀ x ∈ l, ∃ k : Nat, x = (k : Int) ∧ (declS ms ms.length).testBit k = true) → PartsOk ms R st → PartsOk ms R (l.foldl (stepP R) st) ∧ (∀ k : Nat, (k : Int) ∈ l → (l.foldl (stepP R) st).2.testBit k = true) ∧ ∀ o, st.2.testBit o = true → (l.foldl (stepP R) st).2.testBit o = true := by
    intro l
    induction l with
    | nil => intro st _ h; exact ⟨h, fun k hk => by simp at hk, fun _ h => h⟩
    | cons x l ih =>
      intro st hx h
      obtain ⟨k, rfl, hk⟩ := hx x (by simp)
      obtain ⟨s1, s2, s3⟩ := h.step hl hR hk
      obtain ⟨i1, i2, i3⟩ := ih (stepP R st (k : Int)) (fun y hy => hx y (List.mem_cons_of_mem _ hy)) s1
      refine ⟨i1, fun q hq => ?_, fun o ho => i3 o (s3 o ho)⟩
      rcases List.mem_cons.1 hq with hq | hq
      · obtain rfl := Int.ofNat.inj hq
        exact i3 _ s2
      · exact i2 q hq
  intro l hx
  obtain ⟨h1, h2, _⟩ := key l ([], 0) hx ⟨rfl, fun y hy => by simp at hy, fun i y hy => by simp at hy, fun o ho => by simp at ho⟩
  exact ⟨h1, h2⟩
theorem declS_memP {ms : List Mem} : ∀ {n k : Nat}, (declS ms n).testBit k = true → (ms.getD k (false, .mk 0 [] [])).1 = true
  | 0, k, h => by simp [declS] at h
  | n + 1, k, h => by
    unfold declS at h
    split at h
    · rename_i hd
      rw [Nat.testBit_or, Bool.or_eq_true] at h
      rcases h with h | h
      · exact declS_memP h
      · rw [Nat.testBit_two_pow] at h
        obtain rfl : n = k := by simpa using h
        exact hd
    · exact declS_memP h
theorem minQ_eqv {ms : List Mem} (hl : ms.length ≤ 10) (hok : MemsOk ms.length ms) {R : List Nat} (hR : ReachOk ms R) {l : List Nat} (h : IsLeast (pz (zs (allQ 2 ms))) l) {Q : Nat} (hQ : Q ∈ l) {x z : Nat} (hx : Q.testBit x = true) (hz : Q.testBit z = true) : x = z ∨ bitR R x z = true := by
  have hm := (h.2.1 Q).1 hQ
  obtain ⟨hQ10, hQp, hQm⟩ := hm
  obtain ⟨q1, q2, q3⟩ := (qB_iff 2 ms Q).1 ((pz_all hl Q).1 hQp).2
  obtain ⟨S, hS⟩ : ∃ S, Q &&& (R.getD x 0 ||| 2 ^ x) = S := ⟨_, rfl⟩
  have hSb : ∀ i, S.testBit i = true ↔ Q.testBit i = true ∧ (bitR R x i = true ∨ x = i) := fun i => by
    rw [← hS, Nat.testBit_and, Nat.testBit_or, Nat.testBit_two_pow, Bool.and_eq_true, Bool.or_eq_true, decide_eq_true_iff]
    exact Iff.rfl
  have hSQ : subB S Q = true := by rw [subB_iff, ← hS, Nat.and_comm (Q &&& _) Q, ← Nat.and_assoc, Nat.and_self]
  have hS10 : S < 1024 := Nat.lt_of_le_of_lt (subB_le hSQ) hQ10
  have hxS : S.testBit x = true := (hSb x).2 ⟨hx, .inr rfl⟩
  have hclosed : Closed 2 ms S := fun y hy => by
    unfold uns
    rw [hasB_bit hS10 (by omega)]
    cases hyS : S.testBit y
    · rfl
    · obtain ⟨hyQ, hyr⟩ := (hSb y).1 hyS
      have hyD := q2 y hyQ
      have hdec := declS_memP hyD
      have hW : WF ms.length 2 (trOf ms y) := by
        have hget : ms[y]? = some (ms.getD y (false, .mk 0 [] [])) := by rw [List.getD_eq_getElem?_getD, List.getElem?_eq_getElem hy]; rfl
        exact (hok _ (List.mem_of_getElem? hget)).1 hdec
      have hQs : satB 2 (trOf ms y) (Q : Int) = true := by
        have := q3 y hy
        unfold uns at this
        rw [hasB_bit hQ10 (by omega), hyQ] at this
        simpa using this
      have hn10 : (ms.length : Int) ≤ 10 := by omega
      have e : S &&& usesT 2 (trOf ms y) = Q &&& usesT 2 (trOf ms y) := Nat.eq_of_testBit_eq (fun i => by
        rw [Nat.testBit_and, Nat.testBit_and]
        cases hu : (usesT 2 (trOf ms y)).testBit i
        · simp
        · simp only [Bool.and_true]
          rw [Bool.eq_iff_iff]
          refine ⟨fun h1 => ((hSb i).1 h1).1, fun h1 => (hSb i).2 ⟨h1, ?_⟩⟩
          have hyi : bitR R y i = true := hR.edge y i hy (by
            unfold r0S
            rw [Nat.testBit_and, q2 i h1]
            unfold trOf at hu
            rw [hu]; rfl)
          rcases hyr with hyr | hyr
          · exact .inl (hR.trans _ _ _ hyr hyi)
          · subst hyr; exact .inl hyi)
      have : satB 2 (trOf ms y) (S : Int) = true := by
        rw [← sat_uses hn10 hW hS10, e, sat_uses hn10 hW hQ10]; exact hQs
      rw [this]; rfl
  have hSp : pz (zs (allQ 2 ms)) S = true := (pz_all hl S).2 ⟨declS_lt2 ms S (fun i hi => q2 i ((hSb i).1 hi).1), (qB_iff 2 ms S).2 ⟨fun e => by rw [e] at hxS; simp at hxS, fun i hi => q2 i ((hSb i).1 hi).1, hclosed⟩⟩
  have hSe := hQm S hSp hSQ
  rw [← hSe] at hz
  rcases ((hSb z).1 hz).2 with h1 | h1
  · exact .inr h1
  · exact .inl h1
/-- A minimal quorum lies in one of the parts. -/
theorem minQ_part {ms : List Mem} (hl : ms.length ≤ 10) (hok : MemsOk ms.length ms) {R : List Nat} (hR : ReachOk ms R) {l : List Nat} (h : IsLeast (pz (zs (allQ 2 ms))) l) {st : List Nat × Nat} (hP : PartsOk ms R st) (hall : ∀ k, (declS ms ms.length).testBit k = true → st.2.testBit k = true) {Q : Nat} (hQ : Q ∈ l) : ∃ y ∈ st.1, Q &&& y = Q := by
  obtain ⟨q1, q2, q3⟩ := (qB_iff 2 ms Q).1 ((pz_all hl Q).1 ((h.2.1 Q).1 hQ).2.1).2
  obtain ⟨x, hx⟩ : ∃ x, Q.testBit x = true := Classical.byContradiction (fun hc => q1 (eq_zero_of (fun i => by
    cases hb : Q.testBit i
    · rfl
    · exact (hc ⟨i, hb⟩).elim)))
  have hxp := hall x (q2 x hx)
  rw [← hP.all, foldOr_iff] at hxp
  rcases hxp with h1 | ⟨y, hy, hyx⟩
  · simp at h1
  · obtain ⟨k0, _, hy2⟩ := hP.each y hy
    refine ⟨y, hy, subB_iff.1 (sub_subB (fun z hz => (hy2 z).2 (((hy2 x).1 hyx).trans hR ?_)))⟩
    rcases minQ_eqv hl hok hR h hQ hx hz with e1 | e1
    · exact .inl e1
    · rcases minQ_eqv hl hok hR h hQ hz hx with e2 | e2
      · exact .inl e2.symm
      · exact .inr ⟨e1, e2⟩
theorem parts_final {ms : List Mem} (hl : ms.length ≤ 10) : PartsOk ms (reachS ms) (partsS (reachS ms) (nodL (declS ms ms.length) 10)) ∧ (partsS (reachS ms) (nodL (declS ms ms.length) 10)).2 = declS ms ms.length := by
  have hR := reachS_good ms hl
  obtain ⟨h1, h2⟩ := partsS_good hl hR (nodL (declS ms ms.length) 10) (fun x hx => by
    obtain ⟨k, e, _, hk⟩ := (nodL_mem _ _ _).1 hx
    exact ⟨k, e, hk⟩)
  refine ⟨h1, Nat.eq_of_testBit_eq (fun i => ?_)⟩
  rw [Bool.eq_iff_iff]
  exact ⟨h1.decl i, fun h => h2 i ((nodL_mem _ _ _).2 ⟨i, rfl, by have := declS_bit h; omega, h⟩)⟩
end Go.Proofs.Ytoaekbhbbejgmaa
