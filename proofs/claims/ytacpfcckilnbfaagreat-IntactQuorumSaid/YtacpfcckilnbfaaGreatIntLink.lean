/- Intact members as the mathematics speaks of them. -/
import Derived.Test.YtacpfcckilnbfaaGreatLink
import Derived.Test.YtacpfcckilnbfaaGreatIntact
import Derived.Test.YtacpfcckilnbfaaGreatB6
namespace Go.Proofs.YtacpfcckilnbfaaGreat
set_option linter.unusedVariables false
set_option linter.unusedSimpArgs false
open Go.RowKit

theorem allL_of {ls hs : List Mem} {s : Nat} {L : List Nat} (hp : PairM ls hs) (hl : ls.length ≤ 10) (h : AllIs s ls hs L) : AllL (fOf ls) (fOf hs) (declS ls ls.length) ls.length s L := fun t => by
  have p10 := pow_1024 hl
  rw [h.2.2 t]
  constructor
  · rintro ⟨h1, h2, h3⟩; exact ⟨h1, h2, (good_iff hp hl (by omega)).1 h3⟩
  · rintro ⟨h1, h2, h3⟩; exact ⟨h1, h2, (good_iff hp hl (by omega)).2 h3⟩
theorem ofIs_iff {ls hs : List Mem} {s a : Nat} (hp : PairM ls hs) (hl : ls.length ≤ 10) (hs2 : s < 2 ^ ls.length) (h : OfIs s ls hs a) :
    (¬ IntB (fOf ls) (declS ls ls.length) s ∧ a = 0) ∨ (IntB (fOf ls) (declS ls ls.length) s ∧ ∃ L, AllL (fOf ls) (fOf hs) (declS ls ls.length) ls.length s L ∧ AllIs s ls hs L ∧ a = outS ls.length (bfold ls.length L)) := by
  have p10 := pow_1024 hl
  rcases h with ⟨h1, h2⟩ | ⟨h1, L, h2, h3⟩
  · exact .inl ⟨fun h => h1 ((inT_iff hl (by omega) hp.okl).2 h), h2⟩
  · exact .inr ⟨(inT_iff hl (by omega) hp.okl).1 h1, L, allL_of hp hl h2, h2, h3⟩
theorem out_out {n b : Nat} (h : b < 2 ^ n) : outS n (outS n b) = b := by
  apply Nat.eq_of_testBit_eq
  intro k
  rw [outS_bit, outS_bit]
  cases hb : b.testBit k
  · cases decide (k < n) <;> rfl
  · rw [decide_eq_true (lt_bit h hb)]; rfl
theorem out_sub {n a b : Nat} (h : Sub a b) : Sub (outS n b) (outS n a) := fun k hk => by
  rw [outS_bit, Bool.and_eq_true, Bool.not_eq_true'] at hk ⊢
  refine ⟨hk.1, ?_⟩
  cases ha : a.testBit k
  · rfl
  · rw [h k ha] at hk; cases hk.2
/-- No set disjoint from a quorum blocks one of its members. -/
theorem blk_no {ms : List Mem} {D a x k : Nat} (hl : ms.length ≤ 10) (hD : declS ms ms.length = D) (hq : QB (fOf ms) D 0 a) (hk : a.testBit k = true) (hx : x < 1024) (hd : ∀ j, a.testBit j = true → x.testBit j = false) : blkM 3 ms x k = false := by
  have ho : offS x k < 1024 := offS_lt hx
  have h1 := (hq.2.2 k hk).2.2
  rw [Nat.or_zero] at h1
  unfold fOf at h1
  rw [sat_of hq.2.1] at h1
  have h2 : holdsT 3 (hasB (1023 - ((offS x k : Nat) : Int))) (trOf ms k) = true := holdsT_monoA (fun j hj => by
    rw [hasB_compl ho]
    unfold hasB at hj
    rw [Bool.and_eq_true, Bool.and_eq_true] at hj
    have h4 : a.testBit j.toNat = true := by simpa using hj.2.2
    rw [hj.2.1, Bool.true_and, Bool.not_eq_true', offS_bit, hd _ h4]; rfl) 3 _ h1
  unfold blkM blkB
  rw [h2]
  simp
/-- The intact members are a quorum of both. -/
theorem of_quorum {ls hs : List Mem} {s a : Nat} (hp : PairM ls hs) (hl : ls.length ≤ 10) (hs2 : s < 2 ^ ls.length) (h : OfIs s ls hs a) (h0 : a ≠ 0) : QB (fOf hs) (declS ls ls.length) 0 a ∧ QB (fOf ls) (declS ls ls.length) 0 a := by
  rcases ofIs_iff hp hl hs2 h with ⟨_, h2⟩ | ⟨h1, L, h2, _, rfl⟩
  · exact absurd h2 h0
  · have h3 := int_quorum (pairF hp hl) hs2 h1 h2 h0
    exact ⟨h3, quorum_low (pairF hp hl) h3⟩
theorem of_blocks {ls hs : List Mem} {s a k x : Nat} (hp : PairM ls hs) (hl : ls.length ≤ 10) (hs2 : s < 2 ^ ls.length) (h : OfIs s ls hs a) (hk : a.testBit k = true) (hx : x < 1024) (hd : ∀ j, a.testBit j = true → x.testBit j = false) : blkM 3 ls x k = false ∧ blkM 3 hs x k = false := by
  have h0 : a ≠ 0 := by rintro rfl; simp at hk
  have h1 := of_quorum hp hl hs2 h h0
  exact ⟨blk_no hl rfl h1.2 hk hx hd, blk_no (by rw [hp.len]; exact hl) hp.decl h1.1 hk hx hd⟩
theorem of_less {ls hs : List Mem} {s t a b : Nat} (hp : PairM ls hs) (hl : ls.length ≤ 10) (hs2 : s < 2 ^ ls.length) (ht2 : t < 2 ^ ls.length) (hst : Sub s t) (h : OfIs s ls hs a) (h' : OfIs t ls hs b) (h0 : a ≠ 0) : b &&& a = b := by
  rcases ofIs_iff hp hl hs2 h with ⟨_, h2⟩ | ⟨h1, L, h2, _, rfl⟩
  · exact absurd h2 h0
  · rcases ofIs_iff hp hl ht2 h' with ⟨_, rfl⟩ | ⟨h1', L', h2', _, rfl⟩
    · simp
    · exact and_self_sub.2 (out_sub (bf_mono hst h2 h2'))
theorem of_again {ls hs : List Mem} {s a c : Nat} (hp : PairM ls hs) (hl : ls.length ≤ 10) (hs2 : s < 2 ^ ls.length) (h : OfIs s ls hs a) (h0 : a ≠ 0) (h' : OfIs (outS ls.length a) ls hs c) : c = a := by
  rcases ofIs_iff hp hl hs2 h with ⟨_, h2⟩ | ⟨h1, L, h2, _, rfl⟩
  · exact absurd h2 h0
  · rw [out_out (bf_lt _ _)] at h'
    have h3 := bf_int (pairF hp hl) hs2 h1 h2
    rcases ofIs_iff hp hl (bf_lt _ _) h' with ⟨h4, _⟩ | ⟨_, L', h4, _, rfl⟩
    · exact absurd h3 h4
    · rw [bf_again (pairF hp hl) hs2 h1 h2 h4]
theorem of_uniq {ls hs : List Mem} {s a b : Nat} (hp : PairM ls hs) (hl : ls.length ≤ 10) (h : OfIs s ls hs a) (h' : OfIs s ls hs b) : a = b := by
  rcases h with ⟨h1, rfl⟩ | ⟨h1, L, h2, rfl⟩ <;> rcases h' with ⟨h1', rfl⟩ | ⟨h1', L', h2', rfl⟩
  · rfl
  · exact absurd h1' h1
  · exact absurd h1 h1'
  · rw [asc_ext h2.1 h2'.1 (fun t => by rw [h2.2.2 t, h2'.2.2 t])]
end Go.Proofs.YtacpfcckilnbfaaGreat
