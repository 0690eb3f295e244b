/- The contract of the reference's Slices (layer 5) at a right trust. -/
import Derived.Test.YtnfdacfhhkahhaaRSl05
import Derived.Test.YtnfdacfhhkahhaaB5
import Derived.Lib.SmallJoins
namespace Go.Proofs.Ytnfdacfhhkahhaa
set_option linter.unusedVariables false
set_option linter.unusedSimpArgs false
open Go.RowKit

def lstQ (d : Nat) (T : Tree) (s : Nat) : Bool := (List.range 10).all (fun k => !(s.testBit k && satB d T ((s - 2 ^ k : Nat) : Int)))
theorem l05_eq {d : Nat} {T : Tree} {s : Nat} {e : Ending} (h : L05 d T s e) : e = .returned (.bool (lstQ d T s)) := by
  obtain ⟨b, rfl, hb⟩ := h
  have : b = lstQ d T s := by
    rw [Bool.eq_iff_iff, hb]
    unfold lstQ
    rw [List.all_eq_true]
    constructor
    · intro h k hk
      cases hs : s.testBit k
      · rfl
      · rw [h k (List.mem_range.1 hk) hs]; rfl
    · intro h k hk hs
      have := h k (List.mem_range.2 hk)
      rw [hs] at this
      simpa using this
  rw [this]
def qS (d : Nat) (T : Tree) (s : Nat) : Bool := satB d T (s : Int) && lstQ d T s
def ssP (d : Nat) (T : Tree) (s : Nat) : Bool := decide (s < 1024) && satB d T (s : Int)
def outS05 (d : Nat) (T : Tree) (i : Nat) : List Nat := (List.range i).filter (qS d T)
theorem out05_succ (d : Nat) (T : Tree) (i : Nat) : outS05 d T (i + 1) = if qS d T i = true then outS05 d T i ++ [i] else outS05 d T i := by
  unfold outS05
  rw [List.range_succ, List.filter_append]
  by_cases h : qS d T i = true
  · rw [if_pos h]; simp [h]
  · rw [if_neg h]; simp [h]
theorem out05_len (d : Nat) (T : Tree) (i : Nat) : (outS05 d T i).length ≤ i := by
  unfold outS05
  exact Nat.le_trans (List.length_filter_le _ _) (by simp)
theorem out05_mem {d : Nat} {T : Tree} {i t : Nat} : t ∈ outS05 d T i ↔ t < i ∧ qS d T t = true := by
  unfold outS05
  rw [List.mem_filter, List.mem_range]
theorem sub_pow_xor {s k : Nat} (hs : s < 1024) (hk : k < 10) (hb : s.testBit k = true) : s - 2 ^ k = s ^^^ 2 ^ k := by
  have h : ∀ s : Fin 1024, ∀ k : Fin 10, s.val.testBit k.val = true → s.val - 2 ^ k.val = s.val ^^^ 2 ^ k.val := by decide +kernel
  exact h ⟨s, hs⟩ ⟨k, hk⟩ hb
theorem sub_pow_bit {s k j : Nat} (hs : s < 1024) (hk : k < 10) (hb : s.testBit k = true) : (s - 2 ^ k).testBit j = (s.testBit j && !decide (j = k)) := by
  rw [sub_pow_xor hs hk hb, Nat.testBit_xor, Nat.testBit_two_pow]
  by_cases h : k = j
  · subst h; rw [hb]; simp
  · have h2 : ¬ j = k := fun e => h e.symm
    simp [h, h2]
theorem bit_ten {s j : Nat} (hs : s < 1024) (hb : s.testBit j = true) : j < 10 := by
  rcases Nat.lt_or_ge j 10 with h7 | h7
  · exact h7
  · rw [Nat.testBit_lt_two_pow (Nat.lt_of_lt_of_le hs (show 2 ^ 10 ≤ 2 ^ j from Nat.pow_le_pow_right (by omega) h7))] at hb
    cases hb
theorem sat_up {n : Int} {d : Nat} {T : Tree} (hn : n ≤ 10) (hW : WF n d T) {a b : Nat} (ha : a < 1024) (hb : b < 1024) (h : subB a b = true) (hs : satB d T (a : Int) = true) : satB d T (b : Int) = true := by
  rw [sat_in (by omega) (by omega)] at hs ⊢
  refine holdsT_mono (n := n) (fun x h0 h1 hx => ?_) d T hW hs
  obtain ⟨K, rfl⟩ := Int.eq_ofNat_of_zero_le h0
  rw [hasB_nat (by omega) (by omega)] at hx ⊢
  exact sub_bitsS.1 h K hx
theorem qS_iff {n : Int} {d : Nat} {T : Tree} (hn : n ≤ 10) (hW : WF n d T) {s : Nat} (hs : s < 1024) : qS d T s = true ↔ ssP d T s = true ∧ ∀ y, ssP d T y = true → subB y s = true → y = s := by
  unfold qS ssP
  rw [Bool.and_eq_true, Bool.and_eq_true, decide_eq_true_iff]
  constructor
  · rintro ⟨h1, h2⟩
    refine ⟨⟨hs, h1⟩, fun y hy hys => ?_⟩
    rw [Bool.and_eq_true, decide_eq_true_iff] at hy
    apply Nat.eq_of_testBit_eq
    intro k
    cases hb : s.testBit k
    · cases hy2 : y.testBit k
      · rfl
      · rw [sub_bitsS.1 hys k hy2] at hb; cases hb
    · cases hy2 : y.testBit k
      · have hk := bit_ten hs hb
        have hsub : subB y (s - 2 ^ k) = true := sub_bitsS.2 (fun j hj => by
          rw [sub_pow_bit hs hk hb, sub_bitsS.1 hys j hj]
          have : ¬ j = k := fun e => by rw [e, hy2] at hj; cases hj
          simp [this])
        have h3 := sat_up hn hW hy.1 (Nat.lt_of_le_of_lt (Nat.sub_le _ _) hs) hsub hy.2
        unfold lstQ at h2
        have h4 := List.all_eq_true.1 h2 k (List.mem_range.2 hk)
        rw [hb, h3] at h4
        cases h4
      · rfl
  · rintro ⟨⟨_, h1⟩, h2⟩
    refine ⟨h1, ?_⟩
    unfold lstQ
    rw [List.all_eq_true]
    intro k hk
    cases hb : s.testBit k
    · rfl
    · cases h3 : satB d T ((s - 2 ^ k : Nat) : Int)
      · rfl
      · have hk10 := List.mem_range.1 hk
        have h4 := h2 (s - 2 ^ k) (by rw [Bool.and_eq_true, decide_eq_true_iff]; exact ⟨Nat.lt_of_le_of_lt (Nat.sub_le _ _) hs, h3⟩) (sub_bitsS.2 (fun j hj => by rw [sub_pow_bit hs hk10 hb, Bool.and_eq_true] at hj; exact hj.1))
        have h5 := sub_pow_bit (j := k) hs hk10 hb
        rw [h4, hb] at h5
        simp at h5
theorem out05_least {n : Int} {d : Nat} {T : Tree} (hn : n ≤ 10) (hW : WF n d T) {l : List Nat} (h : IsLeast (pz (zs (outS05 d T 1024))) l) : IsLeast (ssP d T) l := by
  have key : ∀ t, pz (zs (outS05 d T 1024)) t = true ↔ t < 1024 ∧ qS d T t = true := fun t => by
    rw [pz_iff]
    unfold zs
    rw [List.mem_map]
    constructor
    · rintro ⟨h1, x, hx, e⟩
      obtain rfl := Int.ofNat.inj e
      exact out05_mem.1 hx
    · rintro ⟨h1, h2⟩
      exact ⟨h1, t, out05_mem.2 ⟨h1, h2⟩, rfl⟩
  refine ⟨h.1, fun t => ?_, h.2.2⟩
  rw [h.2.1 t]
  constructor
  · rintro ⟨h1, h2, _⟩
    exact ⟨h1, (qS_iff hn hW h1).1 ((key t).1 h2).2⟩
  · rintro ⟨h1, h2, h3⟩
    exact ⟨h1, (key t).2 ⟨h1, (qS_iff hn hW h1).2 ⟨h2, h3⟩⟩, fun y hy hyt => h3 y ((qS_iff hn hW ((key y).1 hy).1).1 ((key y).1 hy).2).1 hyt⟩

set_option maxRecDepth 100000 in
set_option maxHeartbeats 4000000 in
theorem rslices_run (P : Nat → Prop) (n : Int) (hn10 : n ≤ 10) (d : Nat) (hd : d ≤ 4) (T : Tree) (v0 v1 v2 : Value) (w : World) (h : TAt P d w v0 v1 v2 T) (hW : WF n d T) (hsz : sizeT d T ≤ 200) :
    Calls Try.prog 9 #[.agg #[v0, v1, v2]] w fun e w' => (∃ v l, e = .returned (.tuple #[v, .int .i64 0]) ∧ w'.ownsRow w.heap.size 3 1 v l.length ((zs l).map (Value.int .i64)) ∧ IsLeast (ssP d T) l) ∧ Below w.heap.size w w' := by
  obtain ⟨i0, hin, hz0, hz1, hz2⟩ := info_parts infoInt
  obtain ⟨t', A', n', ca, B', m', cb, rfl, rfl, rfl⟩ := h.form
  have HT0 := Lib.hid (h.below (balloc (bref w) (.cells #[.int .i64 t', .slice A' n' ca, .slice B' m' cb] 32)))
  have HK0 := Lib.hid (show (w.alloc (.cells #[.int .i64 t', .slice A' n' ca, .slice B' m' cb] 32)).heap[w.heap.size]? = some (.cells #[.int .i64 t', .slice A' n' ca, .slice B' m' cb] 32 (0, 0)) from alloc_at rfl)
  have HB0 := Lib.hid (balloc (bref w) (.cells #[.int .i64 t', .slice A' n' ca, .slice B' m' cb] 32))
  have HW := Lib.hid hW
  have HSZ := Lib.hid hsz
  have HSU := Lib.hid (out05_succ d T)
  have HLN := Lib.hid (out05_len d T)
  have HQ := Lib.hid (fun s : Nat => show qS d T s = (satB d T (s : Int) && lstQ d T s) from rfl)
  have HMM := Lib.hid (fun t (h : t ∈ outS05 d T 1024) => (out05_mem.1 h).1)
  have HFI := Lib.hid (fun l (h : IsLeast (pz (zs (outS05 d T 1024))) l) => out05_least hn10 hW h)
  have HO0 := Lib.hid (show outS05 d T 0 = [] from rfl)
  generalize outS05 d T = ou at *
  clear h hW hsz
  go_enter Try.func9, Try.ntmps9
  go_upto_region 1 with fail
  generalize (w.alloc (.cells #[.int .i64 t', .slice A' n' ca, .slice B' m' cb] 32)) = W0 at *
  generalize hg : w.heap.size = g at HK0 ⊢
  clear hg
  have x0 : W0.cell? ⟨g, 0, none⟩ = some (.int .i64 t') := cell_of_row _ _ 0 _ _ (0, 0) HK0.out
  have x1 : W0.cell? ⟨g, 1, none⟩ = some (.slice A' n' ca) := cell_of_row _ _ 1 _ _ (0, 0) HK0.out
  have x2 : W0.cell? ⟨g, 2, none⟩ = some (.slice B' m' cb) := cell_of_row _ _ 2 _ _ (0, 0) HK0.out
  go_wp2_with fail
  refine (rtvalid_run P n hn10 d hd T _ _ _ _ HT0.out HW.out HSZ.out).mono ?_
  rintro e W1 ⟨rfl, hb1⟩
  have HT1 := Lib.hid (HT0.out.below hb1)
  have HK1 := Lib.hid ((hb1.block _ (Array.getElem?_eq_some_iff.1 HK0.out).1).trans HK0.out)
  have HBW := Lib.hid (bstep HB0.out hb1)
  clear hb1 x0 x1 x2
  have HCS := Lib.hid (show ∀ W, Below W1.heap.size W1 W → W.cell? ⟨g, 0, none⟩ = some (.int .i64 t') ∧ W.cell? ⟨g, 1, none⟩ = some (.slice A' n' ca) ∧ W.cell? ⟨g, 2, none⟩ = some (.slice B' m' cb) from fun W hb => by
    have hr := (hb.block g (Array.getElem?_eq_some_iff.1 HK1.out).1).trans HK1.out
    exact ⟨cell_of_row _ _ 0 _ _ (0, 0) hr, cell_of_row _ _ 1 _ _ (0, 0) hr, cell_of_row _ _ 2 _ _ (0, 0) hr⟩)
  go_wp2_with fail
  go_loopw [5, 6] (fun ov sv W => ∃ (i : Nat) (L : List Nat) (lw : Value), ov = lw ∧ sv = .int .i64 (i : Int) ∧ i ≤ 1024 ∧ Hid (L = ou i) ∧ Hid (W.ownsRow W1.heap.size 3 1 lw L.length ((zs L).map (Value.int .i64))) ∧ Hid (Below W1.heap.size W1 W)) (fun _ sv _ => 1024 - (intOf sv).toNat)
  case atStart => exact ⟨0, [], .slice none 0 0, rfl, rfl, by omega, Lib.hid HO0.out.symm, Lib.hid (World.ownsRow_nil _ _ _ _), Lib.hid (bref _)⟩
  case round =>
    obtain ⟨i, L, lw, hlv, rfl, hi, hL, hRow, hB⟩ := hrel
    replace hlv := hlv.symm
    subst hlv
    obtain ⟨Az, cz, hz⟩ := own_slice hRow.out
    subst hz
    have hll : L.length ≤ i := by rw [hL.out]; exact HLN.out i
    by_cases hlt : i < 1024
    · have hle : (i : Int) ≤ 1023 := by omega
      obtain ⟨c0, c1, c2⟩ := HCS.out _ hB.out
      obtain ⟨x, hx⟩ : ∃ x, satB d T ((i : Nat) : Int) = x := ⟨_, rfl⟩
      have HX := Lib.hid hx
      have hSU := HSU.out i
      rw [HQ.out i, hx] at hSU
      go_wp2_with fail
      refine (rsat_run P d T _ _ _ i _ hlt (HT1.out.below hB.out)).mono ?_
      rintro e W2 ⟨rfl, hb2⟩
      rw [HX.out]
      have HB2 := Lib.hid (bstep hB.out hb2)
      have HR2 := Lib.hid (own_belS hRow.out hb2)
      clear hb2 hRow hB c0 c1 c2 hx
      cases x
      · have HL2 := Lib.hid (show L = ou (i + 1) from by rw [hSU, hL.out]; rfl)
        clear hSU
        go_wp2_with fail
        go_roundw
        case rel => exact ⟨i + 1, L, _, rfl, by go_num, by omega, HL2, HR2, HB2⟩
        case measure => simp [intOf]; omega
      · obtain ⟨c0, c1, c2⟩ := HCS.out _ HB2.out
        obtain ⟨y, hy⟩ : ∃ y, lstQ d T i = y := ⟨_, rfl⟩
        have HY := Lib.hid hy
        rw [hy] at hSU
        have HL2 := Lib.hid (show ou (i + 1) = if y = true then L ++ [i] else L from by rw [hSU, hL.out]; cases y <;> rfl)
        clear hSU hy
        go_wp2_with fail
        refine (least05_run P d T _ _ _ i _ hlt (HT1.out.below HB2.out)).mono ?_
        rintro e W3 ⟨hl5, hb3⟩
        obtain rfl := l05_eq hl5
        rw [HY.out]
        have HB3 := Lib.hid (bstep HB2.out hb3)
        have HR3 := Lib.hid (own_belS HR2.out hb3)
        clear hb3 hl5 c0 c1 c2 HR2 HB2
        cases y
        · have HL3 := Lib.hid (show L = ou (i + 1) from by rw [HL2.out]; rfl)
          go_wp2_with fail
          go_roundw
          case rel => exact ⟨i + 1, L, _, rfl, by go_num, by omega, HL3, HR3, HB3⟩
          case measure => simp [intOf]; omega
        · have HL3 := Lib.hid (show L ++ [i] = ou (i + 1) from by rw [HL2.out]; rfl)
          have hown := HR3.out
          have hb13 : W1.heap.size ≤ W3.heap.size := HB3.out.size
          go_wp2_with (at_builtin; refine wpList_append_own _ rfl _ _ 22 rfl W1.heap.size 3 i0 (.int .i64 0) 1 8 Try.underlying22 hin hz0 hz1 hz2 rfl (by decide) _ _ _ rfl (hown.alloc _) ⟨W3.heap.size, 0, none⟩ 1 1 [.int .i64 (i : Int)] rfl rfl (cell_one_new _ _ _) (fun u hu => by simp at hu; subst hu; rfl) (by unfold maxLen; omega) (by omega) (by simp; omega) ?_; intro v' w6 hown' hgrow hnil)
          have HO6 := Lib.hid (own_snocZ hown')
          have HB6 := Lib.hid (Below.grown (balloc HB3.out (.cells #[.int .i64 (i : Int)] 3)) hgrow (by simp; omega) (fun j hj => (hown.lt j hj).1))
          clear hown' hgrow hnil hown
          go_roundw
          case rel => exact ⟨i + 1, L ++ [i], _, rfl, by go_num, by omega, HL3, HO6, HB6⟩
          case measure => simp [intOf]; omega
    · obtain rfl : i = 1024 := by omega
      have HNL := Lib.hid ((NodesAt.of_ownZ hRow.out).both (w' := wr) (Q := fun _ => True) (fun _ _ _ => rfl) (fun _ _ _ => trivial))
      have HLL := Lib.hid hL.out
      go_wp2_with fail
      refine (rleast_run _ _ L _ hll (fun t ht => HMM.out t (by rw [← HLL.out]; exact ht)) HNL.out).mono ?_
      rintro e W4 ⟨v', l, rfl, hrl, hil, hb4⟩
      have HF := Lib.hid (show W4.ownsRow w.heap.size 3 1 v' l.length ((zs l).map (Value.int .i64)) ∧ Below w.heap.size w W4 ∧ IsLeast (ssP d T) l from
        ⟨Go.Joins.ownsRow_le hrl (Nat.le_trans HBW.out.size hB.out.size), bstep (bstep HBW.out hB.out) hb4, HFI.out l (by rw [← HLL.out]; exact hil)⟩)
      clear hrl hil hb4
      go_wp2_with fail
      go_ret2
      exact ⟨⟨v', l, rfl, HF.out.1, HF.out.2.2⟩, HF.out.2.1⟩
end Go.Proofs.Ytnfdacfhhkahhaa
