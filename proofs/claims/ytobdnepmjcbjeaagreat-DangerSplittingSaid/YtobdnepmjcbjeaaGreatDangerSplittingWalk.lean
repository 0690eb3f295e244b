/- The walk of DangerSplitting: a set splits exactly if two disjoint sets of other members satisfy their own members together with it; Pair names such. -/
import Derived.Test.YtobdnepmjcbjeaaGreatB4
import Derived.Test.YtobdnepmjcbjeaaGreatMkSetN
namespace Go.Proofs.YtobdnepmjcbjeaaGreat
set_option linter.unusedVariables false
set_option linter.unusedSimpArgs false
open Go.RowKit

theorem measQ (i N : Nat) (h : i < N) : N - (intOf (Value.int .i64 ((i : Int) + 1))).toNat < N - (intOf (Value.int .i64 (i : Int))).toNat := by simp [intOf]; omega

theorem numQ (i : Nat) : Value.int .i64 ((i : Int) + 1) = Value.int .i64 ((i + 1 : Nat) : Int) := rfl

/-- The world with both configurations. -/
structure CTwo (w : World) (g : Nat) (v : Value) (ms : List Mem) (gx : Nat) (vx : Value) (xs : List Mem) (W : World) : Prop where
  made : CMade w g v ms W
  outX : W.heap[gx]? = some (.cells #[vx] 27 (0, 0))
  memX : MemsAt (fun b => w.heap.size < b) 2 W vx xs

theorem CTwo.bel {w W W' : World} {g gx : Nat} {v vx : Value} {ms xs : List Mem} (h : CTwo w g v ms gx vx xs W) (hb : Below W.heap.size W W') : CTwo w g v ms gx vx xs W' :=
  ⟨h.made.bel hb, (hb.block _ (Array.getElem?_eq_some_iff.1 h.outX).1).trans h.outX, h.memX.below hb⟩

theorem CTwo.keeps {w W : World} {g gx : Nat} {v vx : Value} {ms xs : List Mem} (h : CTwo w g v ms gx vx xs W) : W.cell? ⟨g, 0, none⟩ = some v ∧ W.cell? ⟨gx, 0, none⟩ = some vx ∧ CTwo w g v ms gx vx xs W := ⟨h.made.cell, cell_of_row _ _ 0 _ _ (0, 0) h.outX, h⟩

def PairF (ms : List Mem) (x : Nat) (b : Bool) (e : Ending) : Prop := ∃ (a q : Nat) (fe : Int), e = .returned (.tuple #[.int .i64 (a : Int), .int .i64 (q : Int), .int .i64 fe]) ∧ a < 1024 ∧ q < 1024 ∧ (b = true → fe = 0 ∧ a &&& q = 0 ∧ (a ||| q) &&& x = 0 ∧ IsQ 2 (delM x ms) a ∧ IsQ 2 (delM x ms) q) ∧ (b = false → fe = 11)

theorem pairF {ms : List Mem} {x : Nat} {b : Bool} {e : Ending} (hl : ms.length ≤ 10) (hx : x < 1024) (h : DisjOk 2 (delM x ms) e) (hb : b = true ↔ Spl ms x) : PairF ms x b e := by
  have hD := decl_del (ms := ms) (s := x) hl hx
  have hlen := delM_len x ms
  rcases h with ⟨i, a, q, rfl, h1, h2, h3, h4, _⟩ | ⟨rfl, hno⟩
  · have ha : a < 2 ^ ms.length := by rw [hlen] at h1; exact ord_lt _ hl a (List.mem_of_getElem? h1)
    have h10 : 2 ^ ms.length ≤ 2 ^ 10 := Nat.pow_le_pow_right (by omega) hl
    have hbt : b = true := hb.2 ⟨a, ha, h2⟩
    have q0 : q ≠ 0 := (apart_gr h4 h3).1 h2.2
    have hs := sub_and.1 h3.sub
    have ad := h2.1.2.1
    refine ⟨a, q, 0, rfl, by omega, h4, fun _ => ⟨rfl, ?_, ?_, h2.1, ⟨q0, hs.2, h3.closed⟩⟩, fun h => by rw [hbt] at h; cases h⟩
    · apply Nat.eq_of_testBit_eq
      intro k
      rw [Nat.testBit_and, Nat.zero_testBit]
      cases hq : q.testBit k
      · simp
      · have := hs.1 k hq
        rw [outS_bit, Bool.and_eq_true] at this
        simpa using this.2
    · apply Nat.eq_of_testBit_eq
      intro k
      rw [Nat.testBit_and, Nat.testBit_or, Nat.zero_testBit]
      cases hk : x.testBit k
      · simp
      · have key : ∀ {y : Nat}, Sub y (declS (delM x ms) (delM x ms).length) → y.testBit k = false := fun {y} h => by
          cases hy : y.testBit k
          · rfl
          · have := h k hy
            rw [hD, minS_bit, hk] at this
            simp at this
        rw [key ad, key hs.2]; rfl
  · have hbf : b = false := by
      cases b
      · rfl
      · obtain ⟨t, ht, hA⟩ := hb.1 rfl
        exact (hno t (by rw [hlen]; exact ht) hA).elim
    exact ⟨0, 0, 11, rfl, by omega, by omega, fun h => (by rw [hbf] at h; cases h), fun _ => rfl⟩

theorem apart_step {ms : List Mem} {y G : Nat} {m b : Bool} (hG : G < 1024) (hm : m = true ↔ ∃ t, t < y ∧ Apart 2 ms t) (hb : b = true ↔ y ≠ 0 ∧ Sub y (declS ms ms.length) ∧ Closed 2 ms y) (hg : IsGr 2 ms (outS ms.length y &&& declS ms ms.length) G) : (m || (b && (G != 0))) = true ↔ ∃ t, t < y + 1 ∧ Apart 2 ms t := by
  have hA : Apart 2 ms y ↔ (b && (G != 0)) = true := by
    rw [Bool.and_eq_true, bne_iff_ne, hb, ← apart_gr hG hg]; exact Iff.rfl
  rw [Bool.or_eq_true, hm, ← hA]
  constructor
  · rintro (⟨t, h1, h2⟩ | h)
    · exact ⟨t, by omega, h2⟩
    · exact ⟨y, by omega, h⟩
  · rintro ⟨t, h1, h2⟩
    rcases Nat.lt_or_ge t y with h | h
    · exact .inl ⟨t, h, h2⟩
    · obtain rfl : y = t := by omega
      exact .inr h2

theorem apart_skip {ms : List Mem} {y : Nat} {m : Bool} (hm : m = true ↔ ∃ t, t < y ∧ Apart 2 ms t) (h : m = true ∨ ¬ IsQ 2 ms y) : m = true ↔ ∃ t, t < y + 1 ∧ Apart 2 ms t := by
  constructor
  · intro h1
    obtain ⟨t, h2, h3⟩ := hm.1 h1
    exact ⟨t, by omega, h3⟩
  · rintro ⟨t, h1, h2⟩
    rcases h with h | h
    · exact h
    · rcases Nat.lt_or_ge t y with h3 | h3
      · exact hm.2 ⟨t, h3, h2⟩
      · obtain rfl : y = t := by omega
        exact (h h2.1).elim

set_option maxRecDepth 100000 in
set_option maxHeartbeats 8000000 in
theorem walkDangerSplitting (a0 : Option Addr) (len0 cap0 : Nat) (z0 : List Int) (w : World) (w0 : IsRow .i64 w a0 len0 cap0 z0) :
    Calls Tryz.prog 4 #[.slice a0 len0 cap0] w fun e w' => e = .returned (.bool true) ∧ Below w.heap.size w w' := by
  have HR := Lib.hid w0
  clear w0
  go_enter Tryz.func4, Tryz.ntmps4
  go_wp2_with fail
  refine (TNew_run _ _ _ _ _ HR.out).mono ?_
  rintro e v0 ⟨rfl, hs0, hb0⟩
  have HS0 := Lib.hid hs0
  have HB0 := Lib.hid hb0
  have hsl := hs0.lt
  clear hs0 hb0
  go_wp2_with fail
  refine (config_run _ 6 (by omega) (by omega) _ HS0.out).mono ?_
  rintro e v2 ⟨cv, ms, rfl, hl1, hl2, hM, hok, hs2, hg2⟩
  have hM0 := id hM
  obtain ⟨A, c, hcv, _⟩ := hM0
  obtain ⟨L, hL⟩ : ∃ L, ms.length = L := ⟨_, rfl⟩
  rw [hL] at hcv
  subst hcv
  have hba := balloc (bref v2) (.cells #[.slice A L c] 27)
  have HM := Lib.hid (show CMade w v2.heap.size (.slice A L c) ms (v2.alloc (.cells #[.slice A L c] 27)) from
    ⟨hs2.alloc _, alloc_at rfl, (hM.both (Q := fun b => w.heap.size < b) (fun _ _ _ => rfl) (fun k _ hk => by omega)).below hba, hs2.lt, bstep (bgrownC HB0.out hg2 (Nat.le_refl _)) hba⟩)
  have hl10 : ms.length ≤ 10 := by omega
  have hL6 : L ≤ 6 := by omega
  have HL10 := Lib.hid hl10
  have HL := Lib.hid hL
  have HOK := Lib.hid hok
  have HMS := Lib.hid (fun sb W hs h => mkSetN_run sb ms (.slice A L c) W hl1 hl10 hs h)
  have HSS := Lib.hid (fun P W x hx (hm : MemsAt P 2 W (.slice A L c) ms) => splits_run P ms _ x W hl10 hx hm hok)
  have HDP := Lib.hid (fun P W x hx (hm : MemsAt P 2 W (.slice A L c) ms) => dpair_run P ms _ x W hl10 hx hm hok)
  have HRD := Lib.hid (fun P W x hx (hm : MemsAt P 2 W (.slice A L c) ms) => rdelete_run P ms _ x W hl10 hx hm hok)
  have HSPL := Lib.hid (show ∀ x, Spl ms x ↔ ∃ t, t < 2 ^ ms.length ∧ Apart 2 (delM x ms) t from fun x => Iff.rfl)
  have HOS := Lib.hid (fun s hs => outS_sub ms.length s hl10 hs)
  have HOL := Lib.hid (fun s => outS_lt ms.length s hl10)
  rw [hL] at HMS HSS HDP HSPL HOS
  have hp := pow11 L (by omega)
  have h10 : 2 ^ L ≤ 2 ^ 6 := Nat.pow_le_pow_right (by omega) hL6
  have h1p : 1 ≤ 2 ^ L := Nat.one_le_two_pow
  obtain ⟨N, hN⟩ : ∃ N, 2 ^ L = N := ⟨_, rfl⟩
  rw [hN] at hp h10 h1p HMS HSS HDP HSPL HOS
  have hn0 : (0 : Int) ≤ (L : Int) := by omega
  have hn64 : ¬ (64 : Int) ≤ (L : Int) := by omega
  have hw1 : wrap64 ((N : Int) - 1) = (N : Int) - 1 := by unfold wrap64; omega
  clear hM hok hs2 hg2 hba HS0 HB0 hl1 hl2 hL hN HR hl10
  go_upto_region 3 with fail
  generalize v2.alloc (.cells #[.slice A L c] 27) = W1 at *
  generalize v2.heap.size = g at *
  have c0 := HM.out.cell
  go_wp2_with fail
  refine (HMS.out _ _ HM.out.tape HM.out.mems).mono ?_
  rintro e W2 ⟨x, rfl, hx, hs2, hg2⟩
  have HM2 := Lib.hid (HM.out.grown hs2 hg2)
  have hx64 : x < 1024 := by omega
  clear hs2 hg2 c0 HM HMS
  have c0 := HM2.out.cell
  go_wp2_with fail
  refine (HSS.out _ _ x hx HM2.out.mems).mono ?_
  rintro e W3 ⟨⟨b, rfl, hb⟩, hb3⟩
  have HBB := Lib.hid hb
  have HM3 := Lib.hid (HM2.out.bel hb3)
  clear hb hb3 c0 HM2 HSS
  have c0 := HM3.out.cell
  go_wp2_with fail
  refine (HDP.out _ _ x hx HM3.out.mems).mono ?_
  rintro e W4 ⟨hdj, hb4⟩
  obtain ⟨a, q, fe, rfl, ha, hq, hyes, hno⟩ := pairF HL10.out hx64 hdj HBB.out
  have HYES := Lib.hid hyes
  have HNO := Lib.hid hno
  have HM4 := Lib.hid (HM3.out.bel hb4)
  clear hdj hb4 hyes hno c0 HM3 HDP
  have c0 := HM4.out.cell
  go_wp2_with fail
  refine (HRD.out _ _ x hx64 HM4.out.mems).mono ?_
  rintro e W5 ⟨v5, rfl, hX5, hb5⟩
  obtain ⟨A5, c5, hv5⟩ := hX5.slice
  rw [delM_len, HL.out] at hv5
  subst hv5
  have HDL := Lib.hid (show (delM x ms).length = L by rw [delM_len]; exact HL.out)
  have hba := balloc (bref W5) (.cells #[.slice A5 L c5] 27)
  have hlow := HM4.out.tape.lt
  have HT := Lib.hid (show CTwo w g (.slice A L c) ms W5.heap.size (.slice A5 L c5) (delM x ms) (W5.alloc (.cells #[.slice A5 L c5] 27)) from
    ⟨(HM4.out.bel hb5).bel hba, alloc_at rfl, (hX5.both (Q := fun q => w.heap.size < q) (fun _ _ _ => rfl) (fun q _ hq => by have : W4.heap.size ≤ q := hq; omega)).below hba⟩)
  have HSX := Lib.hid (HBB.out.trans (HSPL.out x))
  have HOSX := Lib.hid (show ∀ y, y < N → IntKind.i64.wrap (((N - 1 : Nat) : Int) - (y : Int)) = ((outS (delM x ms).length y : Nat) : Int) from fun y hy => by rw [HDL.out]; exact HOS.out y (by omega))
  have HOLX := Lib.hid (show ∀ y, outS (delM x ms).length y < 1024 from fun y => by have := HOL.out y; rw [HL.out] at this; rw [HDL.out]; exact this)
  have HDX := Lib.hid (show (delM x ms).length ≤ 10 by rw [HDL.out]; omega)
  generalize delM x ms = dm at *
  clear hX5 hb5 hba c0 HM4 HRD HBB HSPL HOS HOL
  go_upto_region 7 with fail
  generalize W5.alloc (.cells #[.slice A5 L c5] 27) = W6 at *
  generalize W5.heap.size = gx at *
  obtain ⟨k0, k1, _⟩ := HT.out.keeps
  go_wp2_with fail
  rw [hp]
  go_loopw [13, 14] (fun sm t W => ∃ (y : Nat) (m : Bool), 1 ≤ y ∧ y ≤ N ∧ sm = .bool m ∧ t = .int .i64 (y : Int) ∧ Hid (m = true ↔ ∃ t, t < y ∧ Apart 2 dm t) ∧ Hid (CTwo w g (.slice A L c) ms gx (.slice A5 L c5) dm W)) (fun _ t _ => N - (intOf t).toNat)
  case atStart =>
    refine ⟨1, false, by omega, h1p, rfl, rfl, Lib.hid ?_, HT⟩
    constructor
    · intro h; cases h
    · rintro ⟨t, h1, h2⟩
      obtain rfl : t = 0 := by omega
      exact (h2.1.1 rfl).elim
  case round =>
    clear k0 k1
    obtain ⟨y, m, hy1, hyN, rfl, rfl, HM7, HT7⟩ := hrel
    obtain ⟨k0, k1, _⟩ := HT7.out.keeps
    by_cases hlt : y < N
    · have hle : (y : Int) ≤ (N : Int) - 1 := by omega
      have hy64 : y < 1024 := by omega
      rcases (show m = false ∨ m = true by cases m <;> simp) with rfl | rfl
      · have HO := Lib.hid (HOSX.out y hlt)
        have hol := HOLX.out y
        obtain ⟨O, hO⟩ : ∃ O, outS dm.length y = O := ⟨_, rfl⟩
        have HOQ := Lib.hid hO
        rw [hO] at HO hol
        have hsub : (N : Int) - 1 - (y : Int) = (O : Int) := by
          have h1 := HO.out
          rw [IntWalk.i64_in _ (by omega)] at h1
          omega
        clear hO
        go_wp2_with fail
        refine (rquorum_run _ 2 dm _ y _ HDX.out hy64 HT7.out.memX).mono ?_
        rintro e W8 ⟨b8, rfl, hb8, hbe8⟩
        have HT8 := Lib.hid (HT7.out.bel hbe8)
        have HB8 := Lib.hid hb8
        clear hb8 hbe8 k0 k1
        obtain ⟨k0, k1, _⟩ := HT8.out.keeps
        rcases (show b8 = false ∨ b8 = true by cases b8 <;> simp) with rfl | rfl
        · have HM8 := Lib.hid (apart_skip HM7.out (.inr (fun h => by have := HB8.out.2 h; cases this)))
          clear HM7 HB8 HT7
          go_wp2_with fail
          go_roundw
          case rel => exact ⟨y + 1, false, by omega, hlt, rfl, numQ y, HM8, HT8⟩
          case measure => exact measQ y N hlt
        · go_wp2_with fail
          refine (rgreatest_run _ 2 dm _ O _ HDX.out hol HT8.out.memX).mono ?_
          rintro e W9 ⟨G, rfl, hG, hgr, hbe9⟩
          rw [← HOQ.out] at hgr
          have HT9 := Lib.hid (HT8.out.bel hbe9)
          have HM9 := Lib.hid (apart_step (b := true) hG HM7.out (by simpa using HB8.out) hgr)
          clear hgr hbe9 HM7 HB8 HT7 HT8 k0 k1
          by_cases hG0 : G = 0
          · subst hG0
            go_wp2_with fail
            go_roundw
            case rel => exact ⟨y + 1, false, by omega, hlt, rfl, numQ y, Lib.hid (by simpa using HM9.out), HT9⟩
            case measure => exact measQ y N hlt
          · have q1 : ((G : Int) != 0) = true := by rw [bne_iff_ne]; omega
            have HM10 := Lib.hid (show true = true ↔ ∃ t, t < y + 1 ∧ Apart 2 dm t from by have := HM9.out; rw [show (G != 0) = true from bne_iff_ne.2 hG0] at this; exact this)
            clear HM9
            go_wp2_with fail
            go_roundw
            case rel => exact ⟨y + 1, true, by omega, hlt, rfl, numQ y, Lib.hid (by simpa using HM10.out), HT9⟩
            case measure => exact measQ y N hlt
      · have HM8 := Lib.hid (apart_skip HM7.out (.inl rfl))
        clear HM7
        go_wp2_with fail
        go_roundw
        case rel => exact ⟨y + 1, true, by omega, hlt, rfl, numQ y, Lib.hid (by simpa using HM8.out), HT7⟩
        case measure => exact measQ y N hlt
    · obtain rfl : y = N := Nat.le_antisymm hyN (Nat.not_lt.1 hlt)
      have hle : ¬ (y : Int) ≤ (y : Int) - 1 := by omega
      have hbm : b = m := by rw [Bool.eq_iff_iff]; exact HSX.out.trans HM7.out.symm
      subst hbm
      rcases (show b = false ∨ b = true by cases b <;> simp) with rfl | rfl
      · obtain rfl : fe = 11 := HNO.out rfl
        have HBF := Lib.hid HT7.out.made.below
        go_wp2_with fail
        refine (awake16 _).mono ?_
        rintro e W8 ⟨rfl, hbe⟩
        have HBF2 := Lib.hid (bstep HBF.out hbe)
        clear hbe
        go_wp2_with fail
        go_ret
        exact ⟨rfl, HBF2.out⟩
      · obtain ⟨hfe, haq, hax, hqa, hqq⟩ := HYES.out rfl
        subst hfe
        have q1 := i64_and_nat a q (by omega) (by omega)
        have q2 := i64_or_nat a q (by omega) (by omega)
        have hol : a ||| q < 1024 := Nat.or_lt_two_pow (n := 10) ha hq
        have q3 := i64_and_nat (a ||| q) x (by omega) (by omega)
        rw [haq] at q1
        rw [hax] at q3
        generalize a ||| q = aq at *
        have HQA := Lib.hid hqa
        have HQQ := Lib.hid hqq
        clear hqa hqq haq hax
        go_wp2_with fail
        refine (rquorum_run _ 2 dm _ a _ HDX.out ha HT7.out.memX).mono ?_
        rintro e W8 ⟨b8, rfl, hb8, hbe8⟩
        obtain rfl : b8 = true := hb8.2 HQA.out
        have HT8 := Lib.hid (HT7.out.bel hbe8)
        clear hb8 hbe8 k0 k1
        obtain ⟨k0, k1, _⟩ := HT8.out.keeps
        go_wp2_with fail
        refine (rquorum_run _ 2 dm _ q _ HDX.out hq HT8.out.memX).mono ?_
        rintro e W9 ⟨b9, rfl, hb9, hbe9⟩
        obtain rfl : b9 = true := hb9.2 HQQ.out
        have HT9 := Lib.hid (HT8.out.bel hbe9)
        clear hb9 hbe9 k0 k1
        have HBF := Lib.hid HT9.out.made.below
        go_wp2_with fail
        refine (awake16 _).mono ?_
        rintro e W10 ⟨rfl, hbe⟩
        have HBF2 := Lib.hid (bstep HBF.out hbe)
        clear hbe
        go_wp2_with fail
        go_ret
        exact ⟨rfl, HBF2.out⟩

end Go.Proofs.YtobdnepmjcbjeaaGreat
