/- Dispensable sets of a pair as the mathematics speaks of them. -/
import Derived.Test.YtacpfcckilnbfaaGreatB6
namespace Go.Proofs.YtacpfcckilnbfaaGreat
set_option linter.unusedVariables false
set_option linter.unusedSimpArgs false
open Go.RowKit

/-- What satisfies a member. -/
def fOf (ms : List Mem) (k s : Nat) : Bool := satB 3 (trOf ms k) ((s : Nat) : Int)
theorem decl_lt2 (ms : List Mem) : declS ms ms.length < 2 ^ ms.length :=
  Nat.lt_pow_two_of_testBit _ (fun k hk => by
    cases hb : (declS ms ms.length).testBit k
    · rfl
    · have := declS_bit hb
      omega)
theorem fOf_mono (ms : List Mem) (k a b : Nat) (ha : a < 1024) (hb : b < 1024) (h : Sub a b) (h2 : fOf ms k a = true) : fOf ms k b = true := by
  unfold fOf at h2 ⊢
  rw [sat_of ha] at h2
  rw [sat_of hb]
  exact holdsT_monoA (fun x hx => hasB_sub hb h x hx) 3 _ h2
theorem pairF {ls hs : List Mem} (hp : PairM ls hs) (hl : ls.length ≤ 10) : PairF (fOf ls) (fOf hs) (declS ls ls.length) ls.length :=
  ⟨hl, decl_lt2 ls, fOf_mono ls, fOf_mono hs, fun k s hk hs2 h => by
    obtain ⟨l, e1, hd⟩ := declS_memD hk
    obtain ⟨x, e2⟩ : ∃ x, hs[k]? = some x := ⟨_, List.getElem?_eq_getElem (by rw [hp.len]; exact declS_bit hk)⟩
    have := hp.sat e1 e2 hd s hs2
    unfold fOf trOf at h ⊢
    rw [List.getD_eq_getElem?_getD, e2] at h
    rw [List.getD_eq_getElem?_getD, e1]
    exact this h⟩
theorem isq_del {ls : List Mem} {B q : Nat} (hl : ls.length ≤ 10) (hB : B < 1024) (hok : D3.MemsOk ls.length ls) (hq : q < 1024) : IsQ 3 (D3.delM B ls) q ↔ QB (fOf ls) (declS ls ls.length) B q := by
  have hsub : Sub q (declS (D3.delM B ls) (D3.delM B ls).length) ↔ ∀ k, q.testBit k = true → B.testBit k = false ∧ (declS ls ls.length).testBit k = true := by
    rw [D3.decl_del hl hB]
    constructor
    · intro h k hk
      have h3 := h k hk
      rw [minS_bit, Bool.and_eq_true, Bool.not_eq_true'] at h3
      exact ⟨h3.2, h3.1⟩
    · intro h k hk
      have h3 := h k hk
      rw [minS_bit, h3.1, h3.2]; rfl
  have hsat : ∀ k, q.testBit k = true → B.testBit k = false → (declS ls ls.length).testBit k = true → (uns 3 (D3.delM B ls) q k = false ↔ fOf ls k (q ||| B) = true) := fun k hk hb hd => by
    have hkl := declS_bit hd
    obtain ⟨m, hm, hm1⟩ := declS_memD hd
    rw [uns_iff hq (by omega), hk, Bool.true_and, D3.trOf_del hB (by omega) hm hm1 hb, del_means (n := (ls.length : Int)) (by omega) ((hok m (List.mem_of_getElem? hm)).1 hm1) hB hq (or_lt hq hB) (by omega) hk (fun K hK => by rw [Nat.testBit_or, Bool.or_comm])]
    unfold fOf trOf
    rw [List.getD_eq_getElem?_getD, hm]
    show (!satB 3 m.2 _) = false ↔ satB 3 m.2 _ = true
    cases satB 3 m.2 ((q ||| B : Nat) : Int) <;> simp
  unfold IsQ QB Closed
  rw [hsub, D3.delM_len]
  constructor
  · rintro ⟨h1, h2, h3⟩
    exact ⟨h1, hq, fun k hk => ⟨(h2 k hk).1, (h2 k hk).2, (hsat k hk (h2 k hk).1 (h2 k hk).2).1 (h3 k (declS_bit (h2 k hk).2))⟩⟩
  · rintro ⟨h1, _, h3⟩
    refine ⟨h1, fun k hk => ⟨(h3 k hk).1, (h3 k hk).2.1⟩, fun k hk => ?_⟩
    cases hb : q.testBit k
    · rw [uns_iff hq (by omega), hb]; rfl
    · exact (hsat k hb (h3 k hb).1 (h3 k hb).2.1).2 (h3 k hb).2.2
theorem inT_iff {ls : List Mem} {B : Nat} (hl : ls.length ≤ 10) (hB : B < 1024) (hok : D3.MemsOk ls.length ls) : InT (D3.delM B ls) ↔ IntB (fOf ls) (declS ls ls.length) B := by
  have hp := pow_1024 hl
  have hll : (D3.delM B ls).length ≤ 10 := by rw [D3.delM_len]; exact hl
  constructor
  · intro h a b ha hb
    by_cases hx : ∃ k, a.testBit k = true ∧ b.testBit k = true
    · exact hx
    · refine absurd ⟨(isq_del hl hB hok ha.2.1).2 ha, b, hb.2.1, hb.1, fun k hk => ?_, ((isq_del hl hB hok hb.2.1).2 hb).2.2⟩ (h a)
      have h2 := ((isq_del hl hB hok hb.2.1).2 hb).2.1 k hk
      rw [Nat.testBit_and, h2, Bool.and_true, outS_bit, decide_eq_true (declS_bit h2)]
      cases hak : a.testBit k
      · rfl
      · exact absurd ⟨k, hak, hk⟩ hx
  · rintro h t ⟨h1, q, hq, h2, h3, h4⟩
    have ht : t < 1024 := by
      have := apart_lt (d := 3) (ms := D3.delM B ls) hll ⟨h1, q, hq, h2, h3, h4⟩
      rw [D3.delM_len] at this; omega
    have hsub : Sub q (declS (D3.delM B ls) (D3.delM B ls).length) := fun k hk => by have := h3 k hk; rw [Nat.testBit_and, Bool.and_eq_true] at this; exact this.2
    obtain ⟨k, k1, k2⟩ := h t q ((isq_del hl hB hok ht).1 h1) ((isq_del hl hB hok hq).1 ⟨h2, hsub, h4⟩)
    have h5 := h3 k k2
    rw [Nat.testBit_and, Bool.and_eq_true, outS_bit, k1] at h5
    simp at h5
theorem avT_iff {ls hs : List Mem} {B : Nat} (hp : PairM ls hs) (hl : ls.length ≤ 10) : AvT hs B ↔ AvB (fOf hs) (declS ls ls.length) ls.length B := by
  unfold AvT AvB
  rw [hp.len]
  refine or_congr Iff.rfl ?_
  have hO := outS_lt ls.length B hl
  generalize outS ls.length B = q at hO
  unfold IsQ QB Closed
  rw [hp.decl]
  constructor
  · rintro ⟨h1, h2, h3⟩
    refine ⟨h1, hO, fun k hk => ⟨Nat.zero_testBit k, h2 k hk, ?_⟩⟩
    have hkl := declS_bit (h2 k hk)
    have h4 := h3 k (by rw [hp.len]; exact hkl)
    rw [uns_iff hO (by omega), hk, Bool.true_and, Bool.not_eq_false'] at h4
    rw [Nat.or_zero]; exact h4
  · rintro ⟨h1, _, h3⟩
    refine ⟨h1, fun k hk => (h3 k hk).2.1, fun k hk => ?_⟩
    rw [uns_iff hO (by have := hp.len; omega)]
    cases hb : q.testBit k
    · rfl
    · have h4 := (h3 k hb).2.2
      rw [Nat.or_zero] at h4
      unfold fOf at h4
      rw [h4]; rfl
theorem good_iff {ls hs : List Mem} {B : Nat} (hp : PairM ls hs) (hl : ls.length ≤ 10) (hB : B < 1024) : (AvT hs B ∧ InT (D3.delM B ls)) ↔ DispB (fOf ls) (fOf hs) (declS ls ls.length) ls.length B :=
  and_congr (avT_iff hp hl) (inT_iff hl hB hp.okl)
/-- The meet of two sets of All. -/
theorem all_meets {ls hs : List Mem} {ill x y : Nat} {L : List Nat} (hp : PairM ls hs) (hl : ls.length ≤ 10) (hi : ill < 2 ^ ls.length) (h : AllIs ill ls hs L) (hin : InT (D3.delM ill ls)) (hx : x ∈ L) (hy : y ∈ L) : x &&& y ∈ L := by
  have hp2 := pow_1024 hl
  obtain ⟨x1, x2, x3⟩ := (h.2.2 x).1 hx
  obtain ⟨y1, y2, y3⟩ := (h.2.2 y).1 hy
  have hxy : x &&& y < 2 ^ ls.length := and_ltL x1
  refine (h.2.2 _).2 ⟨hxy, fun k hk => by rw [Nat.testBit_and, x2 k hk, y2 k hk]; rfl, ?_⟩
  exact (good_iff hp hl (by omega)).2 (disp_meets (pairF hp hl) x1 y1 hi x2 y2 ((inT_iff hl (by omega) hp.okl).1 hin) ((good_iff hp hl (by omega)).1 x3) ((good_iff hp hl (by omega)).1 y3))
theorem all_full {ls hs : List Mem} {ill : Nat} {L : List Nat} (hp : PairM ls hs) (hl : ls.length ≤ 10) (hi : ill < 2 ^ ls.length) (h : AllIs ill ls hs L) : 2 ^ ls.length - 1 ∈ L := by
  have hp2 := pow_1024 hl
  have h1 : 1 ≤ 2 ^ ls.length := Nat.one_le_two_pow
  refine (h.2.2 _).2 ⟨by omega, fun k hk => by rw [Nat.testBit_two_pow_sub_one, decide_eq_true (lt_bit hi hk)], (good_iff hp hl (by omega)).2 (disp_all (pairF hp hl))⟩
theorem all_undecl {ls hs : List Mem} {ill x : Nat} {L : List Nat} (hp : PairM ls hs) (hl : ls.length ≤ 10) (h : AllIs ill ls hs L) (hx : x ∈ L) : x &&& outS ls.length (declS ls ls.length) = outS ls.length (declS ls ls.length) := by
  have hp2 := pow_1024 hl
  obtain ⟨x1, x2, x3⟩ := (h.2.2 x).1 hx
  have h4 := ((good_iff hp hl (by omega)).1 x3).1
  apply Nat.eq_of_testBit_eq
  intro k
  rw [Nat.testBit_and]
  cases ho : (outS ls.length (declS ls ls.length)).testBit k
  · rw [Bool.and_false]
  · rw [outS_bit, Bool.and_eq_true, Bool.not_eq_true', decide_eq_true_iff] at ho
    have h5 := disp_undecl (f := fOf ls) h4 ho.1 ho.2
    rw [h5]; rfl
end Go.Proofs.YtacpfcckilnbfaaGreat
