/- The cascade theorem for a pair, as the walk of IntactFollows uses it. -/
import Derived.Test.YtacpfcckilnbfaaGreatIntLink
import Derived.Test.YtacpfcckilnbfaaGreatFollows
namespace Go.Proofs.YtacpfcckilnbfaaGreat
set_option linter.unusedVariables false
set_option linter.unusedSimpArgs false
open Go.RowKit

theorem isq_zero {ms : List Mem} {q : Nat} (hl : ms.length ≤ 10) (hq : q < 1024) : IsQ 3 ms q ↔ QB (fOf ms) (declS ms ms.length) 0 q := by
  unfold IsQ QB Closed
  constructor
  · rintro ⟨h1, h2, h3⟩
    refine ⟨h1, hq, fun k hk => ⟨Nat.zero_testBit k, h2 k hk, ?_⟩⟩
    have hkl := declS_bit (h2 k hk)
    have h4 := h3 k hkl
    rw [uns_iff hq (by omega), hk, Bool.true_and, Bool.not_eq_false'] at h4
    rw [Nat.or_zero]; exact h4
  · rintro ⟨h1, _, h3⟩
    refine ⟨h1, fun k hk => (h3 k hk).2.1, fun k hk => ?_⟩
    rw [uns_iff hq (by omega)]
    cases hb : q.testBit k
    · rfl
    · have h4 := (h3 k hb).2.2
      rw [Nat.or_zero] at h4
      unfold fOf at h4
      rw [h4]; rfl
theorem holdsT_monoX {n : Int} {p q : Int → Bool} (h : ∀ x, 0 ≤ x → x < n → p x = true → q x = true) : ∀ (d : Nat) (T : Tree), WF n d T → holdsT d p T = true → holdsT d q T = true
  | 0, _, w, _ => w.elim
  | d + 1, .mk thr ns is, w, hh => by
    obtain ⟨_, _, _, _, hr, _, hi⟩ := w
    have h1 : cnt p ns ≤ cnt q ns := cnt_monoA ns (fun x hx => h x (hr x hx).1 (hr x hx).2)
    have h2 : cnt (holdsT d p) is ≤ cnt (holdsT d q) is := cnt_monoA is (fun T hT => holdsT_monoX h d T (hi T hT))
    have h3 : thr ≤ ((cnt p ns + cnt (holdsT d p) is : Nat) : Int) := of_decide_eq_true hh
    exact decide_eq_true (show thr ≤ ((cnt q ns + cnt (holdsT d q) is : Nat) : Int) by omega)
theorem holdsT_congrX {n : Int} {p q : Int → Bool} (h : ∀ x, 0 ≤ x → x < n → p x = q x) (d : Nat) (T : Tree) (w : WF n d T) : holdsT d p T = holdsT d q T := by
  rw [Bool.eq_iff_iff]
  exact ⟨holdsT_monoX (fun x h0 h1 hp => by rw [← h x h0 h1]; exact hp) d T w, holdsT_monoX (fun x h0 h1 hp => by rw [h x h0 h1]; exact hp) d T w⟩
theorem fOf_loc {ls : List Mem} (hl : ls.length ≤ 10) (hok : D3.MemsOk ls.length ls) (k s : Nat) (hk : (declS ls ls.length).testBit k = true) (hs : s < 1024) : fOf ls k s = fOf ls k (s &&& (2 ^ ls.length - 1)) := by
  obtain ⟨m, hm, hd⟩ := declS_memD hk
  have hw := (hok m (List.mem_of_getElem? hm)).1 hd
  have hs2 : s &&& (2 ^ ls.length - 1) < 1024 := and_ltL hs
  unfold fOf trOf
  rw [List.getD_eq_getElem?_getD, hm, sat_of hs, sat_of hs2]
  refine holdsT_congrX (n := (ls.length : Int)) (fun x h0 h1 => ?_) 3 _ hw
  obtain ⟨X, rfl⟩ := Int.eq_ofNat_of_zero_le h0
  have hX : X < ls.length := by omega
  rw [hasB_bit hs (by omega), hasB_bit hs2 (by omega), Nat.testBit_and, Nat.testBit_two_pow_sub_one, decide_eq_true hX, Bool.and_true]
theorem fol_step {ls hs : List Mem} {s a u x : Nat} (hp : PairM ls hs) (hl : ls.length ≤ 10) (hs2 : s < 2 ^ ls.length) (h : OfIs s ls hs a) (hu : QB (fOf ls) (declS ls ls.length) 0 u)
    (hua : ∃ k, u.testBit k = true ∧ a.testBit k = true) (hux : ∀ k, u.testBit k = true → a.testBit k = true → x.testBit k = true) (hx : x < 1024) (hne : ∃ k, a.testBit k = true ∧ x.testBit k = false) :
    ∃ k, a.testBit k = true ∧ x.testBit k = false ∧ blkM 3 ls (a &&& x) k = true := by
  rcases ofIs_iff hp hl hs2 h with ⟨_, h2⟩ | ⟨h1, L, h2, _, ha⟩
  · obtain ⟨k, _, hk⟩ := hua
    rw [h2] at hk; simp at hk
  · rw [ha] at hua hux hne
    obtain ⟨k, k1, k2, k3, k4⟩ := casc_step (pairF hp hl) hs2 h1 h2 (fun k s hk hs => fOf_loc hl hp.okl k s hk hs) hu hua hux hx hne
    rw [← ha] at k1 k4
    refine ⟨k, k1, k2, ?_⟩
    have hz : x &&& a < 1024 := and_ltL hx
    have ho : offS (a &&& x) k = x &&& a := by
      apply Nat.eq_of_testBit_eq
      intro j
      rw [offS_bit, Nat.testBit_and, Nat.testBit_and, Bool.and_comm (a.testBit j)]
      by_cases hj : j = k
      · rw [hj, k2]; simp
      · simp [hj]
    unfold blkM
    rw [k3, ho, Bool.true_and]
    unfold blkB
    rw [setB_iff.2 ⟨by omega, by omega⟩, Bool.true_and, Bool.not_eq_true']
    unfold fOf at k4
    rw [sat_of (by omega)] at k4
    rw [show (1023 - ((x &&& a : Nat) : Int)) = ((1023 - (x &&& a) : Nat) : Int) by omega]
    exact k4
def cnt6 (t : Nat) : Nat := (List.range 6).countP (fun k => t.testBit k)
theorem cnt6_le (t : Nat) : cnt6 t ≤ 6 := Nat.le_trans List.countP_le_length (by simp)
theorem cnt6_all : ∀ t : Fin 64, ∀ k : Fin 6, t.val.testBit k.val = true → cnt6 (minS t.val (2 ^ k.val)) + 1 = cnt6 t.val := by decide +kernel
theorem cnt6_step {a x k : Nat} (ha : a < 64) (hk : a.testBit k = true) (hx : x.testBit k = false) : cnt6 (minS a (x ||| 2 ^ k)) + 1 = cnt6 (minS a x) := by
  have h6 : k < 6 := lt_bit (n := 6) ha hk
  have hm : minS a x < 64 := by
    refine Nat.lt_pow_two_of_testBit (n := 6) _ (fun j hj => ?_)
    rw [minS_bit, Nat.testBit_lt_two_pow (Nat.lt_of_lt_of_le ha (Nat.pow_le_pow_right (n := 2) (by decide) hj))]; rfl
  have h1 := cnt6_all ⟨minS a x, hm⟩ ⟨k, h6⟩ (by show (minS a x).testBit k = true; rw [minS_bit, hk, hx]; rfl)
  have e : minS a (x ||| 2 ^ k) = minS (minS a x) (2 ^ k) := by
    apply Nat.eq_of_testBit_eq
    intro j
    rw [minS_bit, minS_bit, minS_bit, Nat.testBit_or]
    cases a.testBit j <;> cases x.testBit j <;> cases (2 ^ k).testBit j <;> rfl
  rw [e]; exact h1
end Go.Proofs.YtacpfcckilnbfaaGreat
