/- The walk of SlicesDual: the blocking sets are the least sets that meet all slices, and the slices the least ones that meet all blocking sets. -/
import Derived.Test.YthbiopmfbnpmfaaSlicesSatisfyWalk
import Derived.Test.YthbiopmfbnpmfaaRMeet
import Derived.Test.YthbiopmfbnpmfaaB2
namespace Go.Proofs.Ythbiopmfbnpmfaa
set_option linter.unusedVariables false
set_option linter.unusedSimpArgs false
open Go.RowKit

theorem compl_sub {a b : Nat} (hb : b < 1024) (h : subB a b = true) : subB (1023 - b) (1023 - a) = true := by
  have ha : a < 1024 := Nat.lt_of_le_of_lt (subB_le h) hb
  refine sub_bitsS.2 (fun j hj => ?_)
  have hj10 : j < 10 := by
    rcases Nat.lt_or_ge j 10 with h7 | h7
    · exact h7
    · rw [Nat.testBit_lt_two_pow (Nat.lt_of_lt_of_le (show 1023 - b < 2 ^ 10 by omega) (show 2 ^ 10 ≤ 2 ^ j from Nat.pow_le_pow_right (by omega) h7))] at hj
      cases hj
  rw [compl_fact hb hj10] at hj
  rw [compl_fact ha hj10]
  cases ha2 : a.testBit j
  · rfl
  · rw [sub_bitsS.1 h j ha2] at hj; cases hj

theorem blk_compl {d : Nat} {T : Tree} {k : Nat} (hk : k < 1024) : blkB d T (k : Int) = !satB d T ((1023 - k : Nat) : Int) := by
  have h3 := sat_blk_compl (d := d) (T := T) (s := ((1023 - k : Nat) : Int)) (by omega) (by omega)
  rw [show (1023 : Int) - ((1023 - k : Nat) : Int) = (k : Int) by omega] at h3
  exact h3

theorem blk_up {n : Int} {d : Nat} {T : Tree} (hn : n ≤ 10) (hW : WF n d T) {a b : Nat} (hb : b < 1024) (h : subB a b = true) (hs : blkB d T (a : Int) = true) : blkB d T (b : Int) = true := by
  have ha : a < 1024 := Nat.lt_of_le_of_lt (subB_le h) hb
  rw [blk_compl ha, Bool.not_eq_true'] at hs
  rw [blk_compl hb, Bool.not_eq_true']
  cases h2 : satB d T ((1023 - b : Nat) : Int)
  · rfl
  · rw [sat_up hn hW (by omega) (by omega) (compl_sub hb h) h2] at hs; cases hs

theorem blo_any {n : Int} {d : Nat} {T : Tree} (hn : n ≤ 10) (hW : WF n d T) {k : Nat} (hk : k < 1024) : (lfold (bloP d T) (ordN 10)).any (fun z => subB z k) = blkB d T (k : Int) := by
  have hL := lfold_least (p := bloP d T) (fun t h => bloP_lt h)
  rw [Bool.eq_iff_iff, List.any_eq_true]
  constructor
  · rintro ⟨z, hz, hzk⟩
    obtain ⟨h1, h2, _⟩ := (hL.2.1 z).1 hz
    unfold bloP at h2
    rw [Bool.and_eq_true] at h2
    exact blk_up hn hW hk hzk h2.2
  · intro h
    have h1 : bloP d T (k &&& usesT d T) = true := by
      unfold bloP
      rw [blk_uses hn hW hk, h, Bool.and_true]
      exact sub_bitsS.2 (fun j hj => by rw [Nat.testBit_and, Bool.and_eq_true] at hj; exact hj.2)
    obtain ⟨y, y1, y2, y3⟩ := least_below (p := bloP d T) _ _ (Nat.le_refl _) h1
    refine ⟨y, (hL.2.1 y).2 ⟨bloP_lt y1, y1, y3⟩, sub_bitsS.2 (fun j hj => ?_)⟩
    have := sub_bitsS.1 y2 j hj
    rw [Nat.testBit_and, Bool.and_eq_true] at this
    exact this.1

theorem dis_compl {z k : Nat} (hz : z < 1024) (hk : k < 1024) : (k &&& z == 0) = subB z (1023 - k) := by
  rw [Bool.eq_iff_iff, beq_iff_eq, sub_bitsS]
  have h10 : ∀ j, z.testBit j = true → j < 10 := fun j hb => by
    rcases Nat.lt_or_ge j 10 with h7 | h7
    · exact h7
    · rw [Nat.testBit_lt_two_pow (Nat.lt_of_lt_of_le hz (show 2 ^ 10 ≤ 2 ^ j from Nat.pow_le_pow_right (by omega) h7))] at hb
      cases hb
  constructor
  · intro h j hb
    have h6 := congrArg (fun x => x.testBit j) h
    simp only [Nat.testBit_and, hb, Bool.and_true, Nat.zero_testBit] at h6
    rw [compl_fact hk (h10 j hb), h6]; rfl
  · intro h
    apply Nat.eq_of_testBit_eq
    intro j
    rw [Nat.testBit_and, Nat.zero_testBit]
    cases hb : z.testBit j
    · rw [Bool.and_false]
    · have h6 := h j hb
      rw [compl_fact hk (h10 j hb), Bool.not_eq_true'] at h6
      rw [h6]; rfl

theorem any_dis {L : List Nat} {k : Nat} (hL : ∀ z ∈ L, z < 1024) (hk : k < 1024) : L.any (fun z => k &&& z == 0) = L.any (fun z => subB z (1023 - k)) := by
  rw [Bool.eq_iff_iff, List.any_eq_true, List.any_eq_true]
  constructor
  · rintro ⟨z, hz, h⟩; exact ⟨z, hz, by rw [← dis_compl (hL z hz) hk]; exact h⟩
  · rintro ⟨z, hz, h⟩; exact ⟨z, hz, by rw [dis_compl (hL z hz) hk]; exact h⟩

theorem least_same {p q r : Nat → Bool} {u N : Nat} (hN : N ≤ 1024) (hu : u < N) (hp : ∀ t, p t = true ↔ subB t u = true ∧ r t = true) (hq : ∀ t, q t = true ↔ t < N ∧ r t = true) (hr : ∀ t, t < N → r (t &&& u) = r t) {l m : List Nat} (h1 : IsLeast p l) (h2 : IsLeast q m) : l = m := by
  have pq : ∀ t, p t = true → q t = true := fun t h => (hq t).2 ⟨Nat.lt_of_le_of_lt (subB_le ((hp t).1 h).1) hu, ((hp t).1 h).2⟩
  refine asc_ext h1.1 h2.1 (fun t => ?_)
  rw [h1.2.1 t, h2.2.1 t]
  constructor
  · rintro ⟨a1, a2, a3⟩
    refine ⟨a1, pq t a2, fun y hy hyt => a3 y ((hp y).2 ⟨subB_trans hyt ((hp t).1 a2).1, ((hq y).1 hy).2⟩) hyt⟩
  · rintro ⟨a1, a2, a3⟩
    have b1 : subB (t &&& u) t = true := sub_bitsS.2 (fun j hj => by rw [Nat.testBit_and, Bool.and_eq_true] at hj; exact hj.1)
    have b2 : subB (t &&& u) u = true := sub_bitsS.2 (fun j hj => by rw [Nat.testBit_and, Bool.and_eq_true] at hj; exact hj.2)
    have b3 := ((hq t).1 a2)
    have b4 := a3 (t &&& u) ((hq _).2 ⟨Nat.lt_of_le_of_lt (subB_le b1) b3.1, by rw [hr t b3.1]; exact b3.2⟩) b1
    rw [b4] at b2
    exact ⟨a1, (hp t).2 ⟨b2, b3.2⟩, fun y hy hyt => a3 y (pq y hy) hyt⟩

theorem uses_lt {n d : Nat} {T : Tree} (hn : n ≤ 10) (hW : WF (n : Int) d T) : usesT d T < 2 ^ n := Nat.lt_pow_two_of_testBit _ (fun k hk => by
  cases hb : (usesT d T).testBit k
  · rfl
  · have := usesT_sub hn d T hW k hb
    omega)

theorem meet_sli {n d : Nat} {T : Tree} (hn : n ≤ 10) (hW : WF (n : Int) d T) {l m : List Nat} (hl : IsLeast (bloP d T) l) (hm : IsLeast (meetB n (lfold (sliP d T) (ordN 10))) m) : l = m := by
  have h10 : 2 ^ n ≤ 2 ^ 10 := Nat.pow_le_pow_right (by omega) hn
  have hLs := lfold_least (p := sliP d T) (fun t h => sliP_lt h)
  refine least_same (u := usesT d T) (N := 2 ^ n) (r := fun t => blkB d T ((t : Nat) : Int)) (by omega) (uses_lt hn hW) (fun t => by unfold bloP; rw [Bool.and_eq_true]) (fun t => ?_) (fun t ht => blk_uses (by omega) hW (by omega)) hl hm
  unfold meetB
  rw [Bool.and_eq_true, decide_eq_true_iff]
  refine and_congr_right (fun ht => ?_)
  rw [any_dis (fun z hz => ((hLs.2.1 z).1 hz).1) (by omega), sli_any (by omega) hW (by omega), blk_compl (by omega)]

theorem meet_blo {n d : Nat} {T : Tree} (hn : n ≤ 10) (hW : WF (n : Int) d T) {l m : List Nat} (hl : IsLeast (sliP d T) l) (hm : IsLeast (meetB n (lfold (bloP d T) (ordN 10))) m) : l = m := by
  have h10 : 2 ^ n ≤ 2 ^ 10 := Nat.pow_le_pow_right (by omega) hn
  have hLs := lfold_least (p := bloP d T) (fun t h => bloP_lt h)
  refine least_same (u := usesT d T) (N := 2 ^ n) (r := fun t => satB d T ((t : Nat) : Int)) (by omega) (uses_lt hn hW) (fun t => by unfold sliP; rw [Bool.and_eq_true]) (fun t => ?_) (fun t ht => sat_uses (by omega) hW (by omega)) hl hm
  unfold meetB
  rw [Bool.and_eq_true, decide_eq_true_iff]
  refine and_congr_right (fun ht => ?_)
  rw [any_dis (fun z hz => ((hLs.2.1 z).1 hz).1) (by omega), blo_any (by omega) hW (by omega), blk_compl (by omega), show 1023 - (1023 - t) = t by omega, Bool.not_not]

set_option maxRecDepth 100000 in
set_option maxHeartbeats 4000000 in
theorem walkSlicesDual (a0 : Option Addr) (len0 cap0 : Nat) (z0 : List Int) (w : World) (w0 : IsRow .i64 w a0 len0 cap0 z0) :
    Calls Try.prog 4 #[.slice a0 len0 cap0] w fun e w' => e = .returned (.bool true) ∧ Below w.heap.size w w' := by
  have HR := Lib.hid w0
  clear w0
  go_enter Try.func4, Try.ntmps4
  go_wp2_with fail
  refine (TNew_run _ _ _ _ _ HR.out).mono ?_
  rintro e v0 ⟨rfl, hs0, hb0⟩
  have HS0 := Lib.hid hs0
  have HB0 := Lib.hid hb0
  clear hs0 hb0
  go_wp2_with fail
  refine (TRange_run _ _ _ _ (by omega) (by omega) (by omega) HS0.out).mono ?_
  rintro e v1 ⟨r, hr0, hr1, rfl, hs1, hg1⟩
  obtain ⟨n, rfl⟩ := Int.eq_ofNat_of_zero_le (show 0 ≤ r by omega)
  have HS1 := Lib.hid hs1
  have HB1 := Lib.hid (bgrownT HB0.out hg1 (Nat.le_refl _))
  have hsl := hs1.lt
  clear hs1 hg1
  go_wp2_with fail
  refine (mkTrust_run _ n (by omega) (by omega) 2 (by omega) _ HS1.out).mono ?_
  rintro e v2 ⟨x0, x1, x2, T, rfl, hT, hF, hs2, hg2⟩
  obtain ⟨t', A', n', ca, B', m', cb, rfl, rfl, rfl⟩ := hT.form
  have hMA : MadeAt w v2.heap.size 3 t' (.slice A' n' ca) (.slice B' m' cb) T (v2.alloc (.cells #[.int .i64 t', .slice A' n' ca, .slice B' m' cb] 27)) :=
    ⟨hs2.alloc _, heap_alloc_new _ _, (hT.imp (fun k _ hk => by omega)).below (balloc (bref _) _), hs2.lt, balloc (bgrownT HB1.out hg2 (Nat.le_refl _)) _⟩
  have HM := Lib.hid hMA
  have HW := Lib.hid hF.1
  have HSZ := Lib.hid hF.2
  have hn10 : n ≤ 10 := by omega
  have hn10i : (n : Int) ≤ 10 := by omega
  have h10 : 2 ^ n ≤ 2 ^ 10 := Nat.pow_le_pow_right (by omega) hn10
  have HUL := Lib.hid (uses_lt hn10 HW.out)
  clear hT hF hs2 hg2 hMA HS1 HB1 HS0 HB0
  go_upto_region 4 with fail
  generalize v2.alloc (.cells #[.int .i64 t', .slice A' n' ca, .slice B' m' cb] 27) = W1 at *
  generalize v2.heap.size = g at *
  obtain ⟨c0, c1, c2⟩ := HM.out.out.cs
  go_wp2_with fail
  refine (slices_run n hn10i 3 (by omega) _ T _ _ _ _ HM.out.tat HW.out HSZ.out).mono ?_
  rintro e W2 ⟨⟨va, rfl, hra⟩, hb2⟩
  have HLA := Lib.hid (lfold_least (p := sliP 3 T) (fun t h => sliP_lt h))
  have HLB := Lib.hid (lfold_least (p := bloP 3 T) (fun t h => bloP_lt h))
  have HMA := Lib.hid (fun m (h : IsLeast (meetB n (lfold (sliP 3 T) (ordN 10))) m) => meet_sli hn10 HW.out HLB.out h)
  have HMB := Lib.hid (fun m (h : IsLeast (meetB n (lfold (bloP 3 T) (ordN 10))) m) => meet_blo hn10 HW.out HLA.out h)
  have HLTA := Lib.hid (show ∀ t ∈ lfold (sliP 3 T) (ordN 10), t < 2 ^ n from fun t ht => by
    have h := ((HLA.out.2.1 t).1 ht).2.1
    unfold sliP at h
    rw [Bool.and_eq_true] at h
    exact Nat.lt_of_le_of_lt (subB_le h.1) HUL.out)
  have HLTB := Lib.hid (show ∀ t ∈ lfold (bloP 3 T) (ordN 10), t < 2 ^ n from fun t ht => by
    have h := ((HLB.out.2.1 t).1 ht).2.1
    unfold bloP at h
    rw [Bool.and_eq_true] at h
    exact Nat.lt_of_le_of_lt (subB_le h.1) HUL.out)
  have HLNA := Lib.hid HLA.out.2.2
  have HLNB := Lib.hid HLB.out.2.2
  have HM2 := Lib.hid (HM.out.bel hb2)
  have HN2 := Lib.hid ((NodesAt.of_ownZ hra).both (w' := W2) (Q := fun _ => True) (fun _ _ _ => rfl) (fun _ _ _ => trivial))
  obtain ⟨Aa, ka, rfl⟩ := own_slice hra
  have HBR := Lib.hid (fun W h => blocking_run n hn10i 3 (by omega) _ T (.int .i64 t') (.slice A' n' ca) (.slice B' m' cb) W (MadeAt.tat (w := w) (g := g) h) HW.out HSZ.out)
  generalize lfold (sliP 3 T) (ordN 10) = La at *
  generalize lfold (bloP 3 T) (ordN 10) = Lb at *
  clear hra hb2 c0 c1 c2 HM HLA HLB h10 HUL
  obtain ⟨c0, c1, c2⟩ := HM2.out.out.cs
  go_wp2_with fail
  refine (HBR.out _ HM2.out).mono ?_
  rintro e W3 ⟨⟨vb, rfl, hrb⟩, hb3⟩
  have HM3 := Lib.hid (HM2.out.bel hb3)
  have HN3 := Lib.hid (HN2.out.below hb3)
  have HO3 := Lib.hid ((NodesAt.of_ownZ hrb).both (w' := W3) (Q := fun _ => True) (fun _ _ _ => rfl) (fun _ _ _ => trivial))
  obtain ⟨Ab, kb, rfl⟩ := own_slice hrb
  clear hrb hb3 c0 c1 c2 HBR HM2 HN2
  go_wp2_with fail
  refine (rmeeting_run _ _ La n hn10 HLTA.out HLNA.out _ HN3.out).mono ?_
  rintro e W4 ⟨vc, lc, rfl, hrc, hlc, hb4⟩
  obtain rfl := HMA.out _ hlc
  have HM4 := Lib.hid (HM3.out.bel hb4)
  have HN4 := Lib.hid (HN3.out.below hb4)
  have HO4 := Lib.hid (HO3.out.below hb4)
  have HP4 := Lib.hid ((NodesAt.of_ownZ hrc).both (w' := W4) (Q := fun _ => True) (fun _ _ _ => rfl) (fun _ _ _ => trivial))
  obtain ⟨Ac, kc, rfl⟩ := own_slice hrc
  clear hrc hb4 HM3 HN3 HO3 hlc
  go_wp2_with fail
  refine (rmeeting_run _ _ Lb n hn10 HLTB.out HLNB.out _ HO4.out).mono ?_
  rintro e W5 ⟨vd, ld, rfl, hrd, hld, hb5⟩
  obtain rfl := HMB.out _ hld
  have HM5 := Lib.hid (HM4.out.bel hb5)
  have HN5 := Lib.hid (HN4.out.below hb5)
  have HO5 := Lib.hid (HO4.out.below hb5)
  have HP5 := Lib.hid (HP4.out.below hb5)
  have HQ5 := Lib.hid ((NodesAt.of_ownZ hrd).both (w' := W5) (Q := fun _ => True) (fun _ _ _ => rfl) (fun _ _ _ => trivial))
  obtain ⟨Ad, kd, rfl⟩ := own_slice hrd
  clear hrd hb5 HM4 HN4 HO4 HP4 hld
  have hza : (zs La).length ≤ 1000000 := by rw [zs_len]; have := HLNA.out; omega
  have hzb : (zs Lb).length ≤ 1000000 := by rw [zs_len]; have := HLNB.out; omega
  have HZA := Lib.hid hza
  have HZB := Lib.hid hzb
  clear hza hzb
  go_wp2_with fail
  refine (ints_run _ _ _ _ (zs Lb) _ HZB.out HO5.out HP5.out).mono ?_
  rintro e W6 ⟨rfl, hb6⟩
  have HM6 := Lib.hid (HM5.out.bel hb6)
  have HN6 := Lib.hid (HN5.out.below hb6)
  have HQ6 := Lib.hid (HQ5.out.below hb6)
  clear hb6 HM5 HN5 HO5 HP5 HQ5
  go_wp2_with fail
  refine (ints_run _ _ _ _ (zs La) _ HZA.out HN6.out HQ6.out).mono ?_
  rintro e W7 ⟨rfl, hb7⟩
  have HM7 := Lib.hid (HM6.out.bel hb7)
  clear hb7 HM6 HN6 HQ6
  go_wp2_with fail
  refine (awake05 _).mono ?_
  rintro e W8 ⟨rfl, hb8⟩
  have HF := Lib.hid (HM7.out.bel hb8).below
  clear hb8
  go_wp2_with fail
  go_ret
  exact ⟨rfl, HF.out⟩

end Go.Proofs.Ythbiopmfbnpmfaa
