/- The contract of danger.Halts, and what halts. -/
import Derived.Test.YtobdnepmjcbjeaaGreatB4
import Derived.Deep.RegionHeld3
namespace Go.Proofs.YtobdnepmjcbjeaaGreat
set_option linter.unusedVariables false
set_option linter.unusedSimpArgs false
open Go.RowKit

def HltAt (P : Nat → Prop) (w : World) (g : Nat) (v : Value) (ms : List Mem) (W : World) : Prop := W.cell? ⟨g, 0, none⟩ = some v ∧ MemsAt P 2 W v ms ∧ Below w.heap.size w W
theorem HltAt.bel {P : Nat → Prop} {w W W' : World} {g : Nat} {v : Value} {ms : List Mem} (h : HltAt P w g v ms W) (hb : Below W.heap.size W W') : HltAt P w g v ms W' :=
  ⟨(hb.cell (cell_lt h.1)).trans h.1, h.2.1.below hb, bstep h.2.2 hb⟩
theorem HltAt.keeps {P : Nat → Prop} {w W : World} {g : Nat} {v : Value} {ms : List Mem} (h : HltAt P w g v ms W) : W.cell? ⟨g, 0, none⟩ = some v ∧ HltAt P w g v ms W := ⟨h.1, h⟩
theorem keepHlt {P : Nat → Prop} {w W W' : World} {g : Nat} {v : Value} {ms : List Mem} (h : W.cell? ⟨g, 0, none⟩ = some v ∧ HltAt P w g v ms W) (hb : Below W.heap.size W W') : W'.cell? ⟨g, 0, none⟩ = some v ∧ HltAt P w g v ms W' := (h.2.bel hb).keeps
theorem memsHlt {P : Nat → Prop} {w W : World} {g : Nat} {v : Value} {ms : List Mem} (h : W.cell? ⟨g, 0, none⟩ = some v ∧ HltAt P w g v ms W) : MemsAt P 2 W v ms := h.2.2.1
def HaltOk (ms : List Mem) (x : Nat) (e : Ending) : Prop := ∃ (b : Bool) (G : Nat), e = .returned (.tuple #[.bool b, .int .i64 0]) ∧ (b = true ↔ G = 0) ∧ IsGr 2 ms (minS (2 ^ ms.length - 1) x &&& declS ms ms.length) G ∧ G < 1024

set_option maxRecDepth 100000 in
set_option maxHeartbeats 4000000 in
theorem halts_run (P : Nat → Prop) (ms : List Mem) (v : Value) (s : Nat) (w : World) (hl : ms.length ≤ 10) (hs : s < 2 ^ ms.length) (h : MemsAt P 2 w v ms) (hok : MemsOk ms.length ms) :
    Calls Tryz.prog 13 #[.agg #[v], .int .i64 (s : Int)] w fun e w' => HaltOk ms s e ∧ Below w.heap.size w w' := by
  obtain ⟨A, c, rfl⟩ := h.slice
  have hb1 : Below w.heap.size w (w.alloc (.cells #[.slice A ms.length c] 27)) := balloc (bref w) _
  have k0 : (w.alloc (.cells #[.slice A ms.length c] 27)).heap[w.heap.size]? = some (.cells #[.slice A ms.length c] 27 (0, 0)) := alloc_at rfl
  have hp2 : 2 ^ ms.length ≤ 2 ^ 10 := Nat.pow_le_pow_right (by omega) hl
  have hs10 : s < 1024 := by omega
  have hm10 : 2 ^ ms.length - 1 < 1024 := by omega
  have han := andNot_nat (2 ^ ms.length - 1) s hm10 hs10
  have hal : minS (2 ^ ms.length - 1) s < 1024 := minS_lt hm10
  have H := Lib.hid (h.below hb1)
  have HB := Lib.hid hb1
  have K0 := Lib.hid k0
  have HVS := Lib.hid (fun W (hm : MemsAt P 2 W (.slice A ms.length c) ms) => validSet_run P ms _ s W hl hs hm hok)
  have HDM := Lib.hid (fun W => dmembers_run A ms.length c hl W)
  have HGR := Lib.hid (fun W S (hS : S < 1024) (hm : MemsAt P 2 W (.slice A ms.length c) ms) => greatest_run P 2 ms (.slice A ms.length c) S W hl hS hm)
  have HOKH := Lib.hid (show ∀ e, HaltOk ms s e ↔ _ from fun e => by unfold HaltOk; exact Iff.rfl)
  generalize HaltOk ms s = TK at *
  have hmse : (2 ^ ms.length - 1) ^^^ ((2 ^ ms.length - 1) &&& s) = minS (2 ^ ms.length - 1) s := rfl
  rw [hmse] at han
  clear hmse
  generalize minS (2 ^ ms.length - 1) s = S at *
  generalize 2 ^ ms.length - 1 = M at *
  obtain ⟨nm, hnm⟩ : ∃ nm, ms.length = nm := ⟨_, rfl⟩
  have HNM := Lib.hid hnm
  rw [hnm] at H K0 HB HVS HDM HGR ⊢
  clear h hb1 k0 hok hnm hp2 hs
  go_enter Tryz.func13, Tryz.ntmps13
  go_upto_region 1 with fail
  generalize w.alloc (.cells #[.slice A nm c] 27) = W1 at *
  generalize hg : w.heap.size = g at *
  have HG := Lib.hid hg
  clear hg
  have c0 : W1.cell? ⟨g, 0, none⟩ = some (.slice A nm c) := cell_of_row _ _ 0 _ _ (0, 0) K0.out
  have HBw := Lib.hid (show Below w.heap.size w W1 by rw [HG.out]; exact HB.out)
  go_wp2_with fail
  refine (HVS.out _ H.out).mono ?_
  rintro e W3 ⟨rfl, hb3⟩
  have HTA := Lib.hid (show HltAt P w g (.slice A nm c) ms W3 from ⟨(hb3.cell (cell_lt c0)).trans c0, H.out.below hb3, bstep HBw.out hb3⟩)
  clear hb3 c0
  go_upto_region 4 with fail
  have hS := Lib.hid (HTA.out.bel (W' := W3.drew) ⟨rfl, rfl, rfl, Nat.le_refl _, fun _ _ => rfl⟩).keeps
  go_region_held3 (fun W => W.cell? ⟨g, 0, none⟩ = some (.slice A nm c) ∧ HltAt P w g (.slice A nm c) ms W) (first | exact hS.out | exact hSK | exact keepHlt (by assumption) hbK | go_keep)
    (first
      | (go_at_call 34; refine (HDM.out _).mono ?_; rintro e WK ⟨rfl, hbK⟩; have hSK := keepHlt (by assumption) hbK)
      | (go_at_call 33; refine (HGR.out _ S hal (by exact memsHlt (by assumption))).mono ?_; rintro e WK ⟨G, rfl, hGl, hGr, hbK⟩; have hSK := keepHlt (by assumption) hbK))
  all_goals
    have HBF := Lib.hid hSK.2.2.2
    have HGG := Lib.hid (And.intro hGl hGr)
    clear hGl hGr
    have HF := Lib.hid (show TK (.returned (.tuple #[.bool ((G : Int) == 0), .int .i64 0])) from (HOKH.out _).2 ⟨_, G, rfl, by rw [beq_iff_eq]; omega, by rw [HNM.out]; exact HGG.out.2, HGG.out.1⟩)
    go_wp2_with fail
    go_ret2
    exact ⟨HF.out, HBF.out⟩

/-- A set halts exactly if it contains a least halting one. -/
theorem halt_some {ms : List Mem} {x G : Nat} {q l : List Nat} (hl : ms.length ≤ 10) (hx : x < 2 ^ ms.length) (hq : IsLeast (pz (zs (allQ 2 ms))) q) (h : IsLeast (meetB ms.length q) l) (hG : IsGr 2 ms (minS (2 ^ ms.length - 1) x &&& declS ms ms.length) G) (hGl : G < 1024) : G = 0 ↔ l.any (fun y => x &&& y == y) = true := by
  have h10 : 2 ^ ms.length ≤ 2 ^ 10 := Nat.pow_le_pow_right (by omega) hl
  have hpz : ∀ t, pz (zs (allQ 2 ms)) t = true ↔ t ∈ allQ 2 ms := fun t => by
    rw [pz_iff]
    unfold zs
    rw [List.mem_map]
    constructor
    · rintro ⟨_, y, hy, e⟩
      obtain rfl := Int.ofNat.inj e
      exact hy
    · intro h1
      have := ((allQ_mem 2 ms t).1 h1).1
      exact ⟨by omega, t, h1, rfl⟩
  have hQ : ∀ t, t ∈ allQ 2 ms ↔ t < 2 ^ ms.length ∧ t ≠ 0 ∧ Sub t (declS ms ms.length) ∧ Closed 2 ms t := fun t => by
    rw [allQ_mem, qB_iff]
  rw [List.any_eq_true]
  constructor
  · intro h0
    have hm : meetB ms.length q x = true := by
      unfold meetB
      rw [Bool.and_eq_true, decide_eq_true_iff, Bool.not_eq_true', List.any_eq_false]
      refine ⟨hx, fun t ht e => ?_⟩
      have e := beq_iff_eq.1 e
      have h2 := (hQ t).1 ((hpz t).1 ((hq.2.1 t).1 ht).2.1)
      have h3 : Sub t G := hG.most t (by omega) (fun k hk => by
        rw [Nat.testBit_and, minS_bit, full_bit.2 (bitLt h2.1 hk), h2.2.2.1 k hk]
        have : (x &&& t).testBit k = false := by rw [e, Nat.zero_testBit]
        rw [Nat.testBit_and, hk, Bool.and_true] at this
        rw [this]; rfl) h2.2.2.2
      rw [h0] at h3
      exact h2.2.1 (Nat.eq_of_testBit_eq (fun k => by
        rw [Nat.zero_testBit]
        cases hb : t.testBit k
        · rfl
        · have := h3 k hb; simp at this))
    obtain ⟨y, hy1, hy2, hy3⟩ := least_below x x (Nat.le_refl _) hm
    have hylt : y < 2 ^ ms.length := by
      unfold meetB at hy1
      rw [Bool.and_eq_true, decide_eq_true_iff] at hy1
      exact hy1.1
    exact ⟨y, (h.2.1 y).2 ⟨by omega, hy1, fun z hz hs => hy3 z hz hs⟩, beq_iff_eq.2 (by rw [Nat.and_comm]; exact subB_iff.1 hy2)⟩
  · rintro ⟨y, hy, hyx⟩
    have hyx := beq_iff_eq.1 hyx
    have hm := ((h.2.1 y).1 hy).2.1
    unfold meetB at hm
    rw [Bool.and_eq_true, decide_eq_true_iff, Bool.not_eq_true', List.any_eq_false] at hm
    apply Classical.byContradiction
    intro hne
    have hs := sub_and.1 hG.sub
    have hGn : G < 2 ^ ms.length := lt_pow_of (fun k hk => by
      have := hs.1 k hk
      rw [minS_bit, Bool.and_eq_true] at this
      exact full_bit.1 this.1)
    obtain ⟨t, ht1, ht2, ht3⟩ := least_below G G (Nat.le_refl _) ((hpz G).2 ((hQ G).2 ⟨hGn, hne, hs.2, hG.closed⟩))
    have htq : t ∈ q := (hq.2.1 t).2 ⟨pz_lt ht1, ht1, fun z hz hzs => ht3 z hz hzs⟩
    refine hm.2 t htq (beq_iff_eq.2 (Nat.eq_of_testBit_eq (fun k => ?_)))
    rw [Nat.testBit_and, Nat.zero_testBit]
    cases hb : t.testBit k
    · simp
    · have h1 := hs.1 k (subB_bit ht2 hb)
      rw [minS_bit, Bool.and_eq_true] at h1
      have h2 : (x &&& y).testBit k = y.testBit k := by rw [hyx]
      rw [Nat.testBit_and] at h2
      cases hyb : y.testBit k
      · rfl
      · rw [hyb, Bool.and_true] at h2
        rw [h2] at h1
        simp at h1
end Go.Proofs.YtobdnepmjcbjeaaGreat
