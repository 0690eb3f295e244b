/- What the laws of this seat share: part 3. -/
import Derived.Test.YtobdnepmjcbjeaaB2
import Derived.Deep.RegionHeld3

namespace Go.Proofs.Ytobdnepmjcbjeaa
set_option linter.unusedVariables false
set_option linter.unusedSimpArgs false
open Go.RowKit

def belV (l : List Nat) (n : Nat) : Int := match l with | [] => (n : Int) | a :: _ => (popc a : Int) - 1

set_option maxRecDepth 100000 in
set_option maxHeartbeats 1000000 in
theorem below_run (P : Nat → Prop) (v : Value) (l : List Nat) (n nl : Nat) (hnl : l.length = nl) (hl : nl ≤ 1024) (ht : ∀ t ∈ l, t < 1024) (w : World) (hN : NodesAt P w v (zs l)) :
    Calls Try.prog 15 #[v, .int .i64 (n : Int)] w fun e w' => e = .returned (.int .i64 (belV l n)) ∧ Below w.heap.size w w' := by
  obtain ⟨A, c, rfl, hN2⟩ := hN
  rcases l with _ | ⟨a, r⟩
  · obtain rfl : nl = 0 := hnl.symm
    have HV := Lib.hid (show belV [] n = (n : Int) from rfl)
    have hz : (zs ([] : List Nat)).length = 0 := rfl
    rw [hz] at hN2 ⊢
    clear hN2
    go_enter Try.func15, Try.ntmps15
    go_wp2_with fail
    go_ret
    exact ⟨by rw [HV.out]; rfl, bref _⟩
  · have hz : (zs (a :: r)).length = nl := by rw [zs_len]; exact hnl
    have hnl1 : 1 ≤ nl := by rw [← hnl]; simp
    obtain ⟨b, off, hA, hb, hc⟩ := hN2 0 (by rw [hz]; omega)
    have hc0 : w.cell? ⟨b, off, none⟩ = some (.int .i64 (a : Int)) := hc
    have ha := ht a (by simp)
    have HV := Lib.hid (show belV (a :: r) n = (popc a : Int) - 1 from rfl)
    have hp10 : popc a ≤ 10 := by
      unfold popc
      exact Nat.le_trans List.countP_le_length (by simp)
    have hpr := fun W => psize_run a ha W
    have HPR := Lib.hid hpr
    generalize belV (a :: r) n = bv at *
    generalize popc a = p at *
    rw [hz] at hN2 ⊢
    subst hA
    clear hc hN2 ht hpr
    have hn0 : ¬ (nl : Int) = 0 := by omega
    have hn1 : (0 : Int) < (nl : Int) := by omega
    go_enter Try.func15, Try.ntmps15
    go_wp2_with fail
    refine (HPR.out _).mono ?_
    rintro e W2 ⟨rfl, rfl⟩
    go_wp2_with fail
    go_ret
    exact ⟨by rw [HV.out]; rfl, bref _⟩

def TolAt (w : World) (g : Nat) (v v1 v2 : Value) (l1 l2 : List Nat) (W : World) : Prop := W.cell? ⟨g, 0, none⟩ = some v ∧ NodesAt (fun _ => True) W v1 (zs l1) ∧ NodesAt (fun _ => True) W v2 (zs l2) ∧ Below w.heap.size w W

theorem TolAt.bel {w W W' : World} {g : Nat} {v v1 v2 : Value} {l1 l2 : List Nat} (h : TolAt w g v v1 v2 l1 l2 W) (hb : Below W.heap.size W W') : TolAt w g v v1 v2 l1 l2 W' :=
  ⟨(hb.cell (cell_lt h.1)).trans h.1, h.2.1.below hb, h.2.2.1.below hb, bstep h.2.2.2 hb⟩

theorem TolAt.keeps {w W : World} {g : Nat} {v v1 v2 : Value} {l1 l2 : List Nat} (h : TolAt w g v v1 v2 l1 l2 W) : W.cell? ⟨g, 0, none⟩ = some v ∧ TolAt w g v v1 v2 l1 l2 W := ⟨h.1, h⟩

theorem keepTol {w W W' : World} {g : Nat} {v v1 v2 : Value} {l1 l2 : List Nat} (h : W.cell? ⟨g, 0, none⟩ = some v ∧ TolAt w g v v1 v2 l1 l2 W) (hb : Below W.heap.size W W') : W'.cell? ⟨g, 0, none⟩ = some v ∧ TolAt w g v v1 v2 l1 l2 W' := (h.2.bel hb).keeps

theorem oneTol {w W : World} {g : Nat} {v v1 v2 : Value} {l1 l2 : List Nat} (h : W.cell? ⟨g, 0, none⟩ = some v ∧ TolAt w g v v1 v2 l1 l2 W) : NodesAt (fun _ => True) W v1 (zs l1) := h.2.2.1

theorem twoTol {w W : World} {g : Nat} {v v1 v2 : Value} {l1 l2 : List Nat} (h : W.cell? ⟨g, 0, none⟩ = some v ∧ TolAt w g v v1 v2 l1 l2 W) : NodesAt (fun _ => True) W v2 (zs l2) := h.2.2.2.1

def TolOk (ms : List Mem) (e : Ending) : Prop := ∃ l1 l2 q, IsLeast (pz (zs (allS ms))) l1 ∧ IsLeast (pz (zs (allQ 2 ms))) q ∧ IsLeast (meetB ms.length q) l2 ∧ e = .returned (.tuple #[.int .i64 (belV l1 ms.length), .int .i64 (belV l2 ms.length), .int .i64 0])

set_option maxRecDepth 100000 in
set_option maxHeartbeats 4000000 in
theorem tolerates_run (P : Nat → Prop) (ms : List Mem) (v : Value) (w : World) (hl : ms.length ≤ 7) (h : MemsAt P 2 w v ms) (hok : MemsOk ms.length ms) :
    Calls Try.prog 7 #[.agg #[v]] w fun e w' => TolOk ms e ∧ Below w.heap.size w w' := by
  obtain ⟨A, c, rfl⟩ := h.slice
  have hb1 : Below w.heap.size w (w.alloc (.cells #[.slice A ms.length c] 24)) := balloc (bref w) _
  have k0 : (w.alloc (.cells #[.slice A ms.length c] 24)).heap[w.heap.size]? = some (.cells #[.slice A ms.length c] 24 (0, 0)) := alloc_at rfl
  have H := Lib.hid (h.below hb1)
  have HB := Lib.hid hb1
  have K0 := Lib.hid k0
  have HSP := Lib.hid (fun W (hm : MemsAt P 2 W (.slice A ms.length c) ms) => splitting_run P ms _ W hl hm hok)
  have HHA := Lib.hid (fun W (hm : MemsAt P 2 W (.slice A ms.length c) ms) => halting_run P ms _ W (by omega) hm hok)
  have HTO := Lib.hid (show ∀ e, TolOk ms e ↔ _ from fun e => by unfold TolOk; exact Iff.rfl)
  generalize TolOk ms = TK at *
  obtain ⟨nm, hnm⟩ : ∃ nm, ms.length = nm := ⟨_, rfl⟩
  rw [hnm] at HSP HHA H K0 HB HTO hl ⊢
  clear h hb1 k0 hok hnm
  go_enter Try.func7, Try.ntmps7
  go_upto_region 1 with fail
  generalize w.alloc (.cells #[.slice A nm c] 24) = W1 at *
  generalize hg : w.heap.size = g at *
  have HG := Lib.hid hg
  clear hg
  have c0 : W1.cell? ⟨g, 0, none⟩ = some (.slice A nm c) := cell_of_row _ _ 0 _ _ (0, 0) K0.out
  have HBw := Lib.hid (show Below w.heap.size w W1 by rw [HG.out]; exact HB.out)
  go_wp2_with fail
  refine (HSP.out _ H.out).mono ?_
  rintro e W2 ⟨v2, l1, rfl, ho2, hq2, hb2⟩
  have c2 := (hb2.cell (cell_lt c0)).trans c0
  have HN2 := Lib.hid ((NodesAt.of_ownZ ho2).both (Q := fun _ => True) (fun _ _ _ => rfl) (fun _ _ _ => trivial))
  have HB2 := Lib.hid (bstep HBw.out hb2)
  have H2 := Lib.hid (H.out.below hb2)
  have HL1 := Lib.hid hq2
  have HT1 := Lib.hid (show ∀ t ∈ l1, t < 1024 from fun t ht => ((hq2.2.1 t).1 ht).1)
  obtain ⟨A2, c3, hv2⟩ := own_slice ho2
  subst hv2
  obtain ⟨n1, hn1⟩ : ∃ n, l1.length = n := ⟨_, rfl⟩
  have hn1l : n1 ≤ 1024 := by rw [← hn1]; exact hq2.2.2
  have HN1 := Lib.hid hn1
  rw [hn1] at HN2 ⊢
  clear ho2 hb2 c0 hq2 hn1
  go_wp2_with fail
  refine (HHA.out _ H2.out).mono ?_
  rintro e W3 ⟨v3, l2, q, rfl, ho3, hq3, hl3, hb3⟩
  have c4 := (hb3.cell (cell_lt c2)).trans c2
  have HN3 := Lib.hid ((NodesAt.of_ownZ ho3).both (Q := fun _ => True) (fun _ _ _ => rfl) (fun _ _ _ => trivial))
  have HT2 := Lib.hid (show ∀ t ∈ l2, t < 1024 from fun t ht => ((hl3.2.1 t).1 ht).1)
  obtain ⟨A3, c5, hv3⟩ := own_slice ho3
  subst hv3
  obtain ⟨n2, hn2⟩ : ∃ n, l2.length = n := ⟨_, rfl⟩
  have hn2l : n2 ≤ 1024 := by rw [← hn2]; exact hl3.2.2
  have HNN2 := Lib.hid hn2
  rw [hn2] at HN3 ⊢
  have HF := Lib.hid (show TK (.returned (.tuple #[.int .i64 (belV l1 nm), .int .i64 (belV l2 nm), .int .i64 0])) from (HTO.out _).2 ⟨l1, l2, q, HL1.out, hq3, hl3, rfl⟩)
  have HTA := Lib.hid (show TolAt w g (.slice A nm c) (.slice A2 n1 c3) (.slice A3 n2 c5) l1 l2 W3 from ⟨c4, HN2.out.below hb3, HN3.out, bstep HB2.out hb3⟩)
  clear ho3 hb3 hq3 hl3 hn2 c4 c2
  go_upto_region 7 with fail
  have hS := Lib.hid (HTA.out.bel (W' := W3.drew) ⟨rfl, rfl, rfl, Nat.le_refl _, fun _ _ => rfl⟩).keeps
  go_region_held3 (fun W => W.cell? ⟨g, 0, none⟩ = some (.slice A nm c) ∧ TolAt w g (.slice A nm c) (.slice A2 n1 c3) (.slice A3 n2 c5) l1 l2 W) (first | exact hS.out | exact hSK | exact keepTol (by assumption) hbK | go_keep)
    (first
      | (go_at_call_of 15 (Value.slice A2 n1 c3); refine (below_run _ _ l1 nm n1 HN1.out hn1l HT1.out _ (by exact oneTol (by assumption))).mono ?_; rintro e WK ⟨rfl, hbK⟩; have hSK := keepTol (by assumption) hbK)
      | (go_at_call_of 15 (Value.slice A3 n2 c5); refine (below_run _ _ l2 nm n2 HNN2.out hn2l HT2.out _ (by exact twoTol (by assumption))).mono ?_; rintro e WK ⟨rfl, hbK⟩; have hSK := keepTol (by assumption) hbK))
  all_goals
    have HBF := Lib.hid hSK.2.2.2.2
    go_wp2_with fail
    go_ret3
    exact ⟨HF.out, HBF.out⟩

end Go.Proofs.Ytobdnepmjcbjeaa

namespace Go.Proofs.Ytobdnepmjcbjeaa
set_option linter.unusedVariables false
set_option linter.unusedSimpArgs false
open Go.RowKit

def nodU (n : Nat) : List Int := (List.range n).map (fun (i : Nat) => (i : Int))

theorem nodU_succ (n : Nat) : nodU (n + 1) = nodU n ++ [(n : Int)] := by unfold nodU; rw [List.range_succ, List.map_append]; rfl

theorem nodU_len (n : Nat) : (nodU n).length = n := by unfold nodU; simp

def uniT (n k : Nat) : Tree := .mk (k : Int) (nodU n) []

def uniM (n k j : Nat) : List Mem := List.replicate j (true, uniT n k)

theorem uniM_succ (n k j : Nat) : uniM n k (j + 1) = uniM n k j ++ [(true, uniT n k)] := List.replicate_succ'

theorem uniM_len (n k j : Nat) : (uniM n k j).length = j := List.length_replicate

/-- How many of the first n bits are on. -/
def pcN (n S : Nat) : Nat := (List.range n).countP (fun j => S.testBit j)

theorem uni_decl (n k m : Nat) : ∀ j, j ≤ m → declS (uniM n k m) j = 2 ^ j - 1
  | 0, _ => rfl
  | j + 1, h => by
    have ih := uni_decl n k m j (by omega)
    have hg : (uniM n k m).getD j (false, .mk 0 [] []) = (true, uniT n k) := by
      rw [List.getD_eq_getElem?_getD]
      have : (uniM n k m)[j]? = some (true, uniT n k) := by unfold uniM; rw [List.getElem?_replicate, if_pos (by omega)]
      rw [this]; rfl
    show (if ((uniM n k m).getD j (false, .mk 0 [] [])).1 then declS (uniM n k m) j ||| 2 ^ j else declS (uniM n k m) j) = _
    rw [hg, if_pos rfl, ih]
    apply Nat.eq_of_testBit_eq
    intro i
    rw [Nat.testBit_or, Nat.testBit_two_pow_sub_one, Nat.testBit_two_pow, Nat.testBit_two_pow_sub_one]
    by_cases h1 : i < j
    · rw [decide_eq_true h1, decide_eq_true (show i < j + 1 by omega)]; rfl
    · by_cases h2 : j = i
      · rw [decide_eq_false h1, decide_eq_true h2, decide_eq_true (show i < j + 1 by omega)]; rfl
      · rw [decide_eq_false h1, decide_eq_false h2, decide_eq_false (show ¬ i < j + 1 by omega)]; rfl

theorem uni_tr {n k j : Nat} (h : j < n) : trOf (uniM n k n) j = uniT n k := by
  unfold trOf
  rw [List.getD_eq_getElem?_getD]
  have : (uniM n k n)[j]? = some (true, uniT n k) := by unfold uniM; rw [List.getElem?_replicate, if_pos h]
  rw [this]; rfl

theorem uni_cnt (S : Nat) (hS : S < 1024) : ∀ n, n ≤ 10 → cnt (hasB (S : Int)) (nodU n) = pcN n S
  | 0, _ => rfl
  | n + 1, h => by
    have ih := uni_cnt S hS n (by omega)
    unfold cnt at ih ⊢
    unfold pcN at ih ⊢
    rw [nodU_succ, List.filter_append, List.length_append, ih, List.range_succ, List.countP_append]
    congr 1
    rw [List.filter_cons, hasB_bit hS (by omega)]
    cases hb : S.testBit n <;> simp [hb]

theorem uni_sat {d n k S : Nat} (hn : n ≤ 10) (hS : S < 1024) : satB (d + 1) (uniT n k) (S : Int) = decide (k ≤ pcN n S) := by
  unfold satB uniT
  rw [setB_iff.2 ⟨by omega, by omega⟩, Bool.true_and]
  show decide ((k : Int) ≤ ((cnt (hasB (S : Int)) (nodU n) + cnt (holdsT d (hasB (S : Int))) [] : Nat) : Int)) = _
  rw [uni_cnt S hS n hn]
  have : cnt (holdsT d (hasB (S : Int))) [] = 0 := rfl
  rw [this, Nat.add_zero]
  apply Bool.eq_iff_iff.2
  simp

theorem uni_closed {d n k S : Nat} (hn : n ≤ 10) (hS : S < 2 ^ n) (h0 : S ≠ 0) : Closed (d + 1) (uniM n k n) S ↔ k ≤ pcN n S := by
  have h10 : 2 ^ n ≤ 2 ^ 10 := Nat.pow_le_pow_right (by omega) hn
  have hS10 : S < 1024 := by omega
  constructor
  · intro h
    obtain ⟨j, hj⟩ : ∃ j, S.testBit j = true := Classical.byContradiction (fun hc => h0 (Nat.eq_of_testBit_eq (fun i => by
      rw [Nat.zero_testBit]
      cases hb : S.testBit i
      · rfl
      · exact (hc ⟨i, hb⟩).elim)))
    have hjn : j < n := by
      rcases Nat.lt_or_ge j n with h1 | h1
      · exact h1
      · rw [Nat.testBit_lt_two_pow (Nat.lt_of_lt_of_le hS (Nat.pow_le_pow_right (by omega) h1))] at hj; cases hj
    have h1 := h j (by rw [uniM_len]; exact hjn)
    unfold uns at h1
    rw [hasB_bit hS10 (by omega), hj, uni_tr hjn, uni_sat hn hS10] at h1
    simpa using h1
  · intro h j hj
    rw [uniM_len] at hj
    unfold uns
    rw [uni_tr hj, uni_sat hn hS10, decide_eq_true h]
    simp

theorem nodU_mem {n : Nat} {x : Int} (h : x ∈ nodU n) : 0 ≤ x ∧ x < (n : Int) := by
  unfold nodU at h
  obtain ⟨i, hi, rfl⟩ := List.mem_map.1 h
  have := List.mem_range.1 hi
  omega

theorem nodU_nodup : ∀ n, (nodU n).Nodup
  | 0 => List.nodup_nil
  | n + 1 => by
    rw [nodU_succ, List.nodup_append]
    refine ⟨nodU_nodup n, by simp, fun a ha b hb => ?_⟩
    rw [List.mem_singleton] at hb
    have := nodU_mem ha
    omega

theorem uni_ok {n k : Nat} (hn : n ≤ 10) (hk : 1 ≤ k) (hkn : k ≤ n) : MemsOk (uniM n k n).length (uniM n k n) := by
  intro x hx
  rw [uniM_len]
  obtain rfl : x = (true, uniT n k) := List.eq_of_mem_replicate hx
  refine ⟨fun _ => ?_, fun h => by cases h⟩
  refine ⟨by omega, ?_, by rw [nodU_len]; exact hn, by simp, fun x hx => nodU_mem hx, nodU_nodup n, fun T hT => by cases hT⟩
  rw [nodU_len]
  simp; omega

end Go.Proofs.Ytobdnepmjcbjeaa

namespace Go.Proofs.Ytobdnepmjcbjeaa
set_option linter.unusedVariables false
set_option linter.unusedSimpArgs false
open Go.RowKit

set_option maxRecDepth 100000 in
theorem pcN_popc (n s : Nat) (hn : n ≤ 10) (hs : s < 2 ^ n) : pcN n s = popc s := by
  have all : ∀ n : Fin 11, (List.range (2 ^ n.val)).all (fun s => pcN n.val s == popc s) = true := by decide +kernel
  have := List.all_eq_true.1 (all ⟨n, by omega⟩) s (List.mem_range.2 hs)
  simpa using this

set_option maxRecDepth 100000 in
theorem popc_del (s i : Nat) (hs : s < 1024) (hi : i < 10) (hb : s.testBit i = true) : popc (s - 2 ^ i) + 1 = popc s ∧ subB (s - 2 ^ i) s = true ∧ (s - 2 ^ i).testBit i = false := by
  have all : ∀ s : Fin 1024, ∀ i : Fin 10, s.val.testBit i.val = true → (popc (s.val - 2 ^ i.val) + 1 = popc s.val ∧ subB (s.val - 2 ^ i.val) s.val = true ∧ (s.val - 2 ^ i.val).testBit i.val = false) := by decide +kernel
  exact all ⟨s, hs⟩ ⟨i, hi⟩ hb

set_option maxRecDepth 100000 in
theorem dl_bit (s i j : Nat) (hs : s < 1024) (hi : i < 10) (hj : j < 10) (hb : s.testBit i = true) (hij : j ≠ i) : (s - 2 ^ i).testBit j = s.testBit j := by
  have all : ∀ s : Fin 1024, ∀ i : Fin 10, ∀ j : Fin 10, s.val.testBit i.val = true → j.val ≠ i.val → (s.val - 2 ^ i.val).testBit j.val = s.val.testBit j.val := by decide +kernel
  exact all ⟨s, hs⟩ ⟨i, hi⟩ ⟨j, hj⟩ hb hij

theorem testBit_lt10 {s i : Nat} (hs : s < 1024) (h : s.testBit i = true) : i < 10 := by
  rcases Nat.lt_or_ge i 10 with h1 | h1
  · exact h1
  · have h2 : s < 2 ^ i := Nat.lt_of_lt_of_le hs (Nat.pow_le_pow_right (n := 2) (by omega) h1)
    rw [Nat.testBit_lt_two_pow h2] at h; cases h

theorem subB_of {a b : Nat} (h : ∀ k, a.testBit k = true → b.testBit k = true) : subB a b = true := by
  rw [subB_iff]
  apply Nat.eq_of_testBit_eq
  intro k
  rw [Nat.testBit_and]
  cases ha : a.testBit k
  · rfl
  · rw [h k ha]; rfl

/-- A proper subset has fewer nodes. -/
theorem popc_strict {y s : Nat} (hs : s < 1024) (h : subB y s = true) (hne : y ≠ s) : popc y < popc s := by
  obtain ⟨i, hi1, hi2⟩ : ∃ i, s.testBit i = true ∧ y.testBit i = false := Classical.byContradiction (fun hc => hne (Nat.eq_of_testBit_eq (fun i => by
    cases hy : y.testBit i
    · cases hsb : s.testBit i
      · rfl
      · exact (hc ⟨i, hsb, hy⟩).elim
    · rw [subB_bit h hy])))
  have hi10 := testBit_lt10 hs hi1
  obtain ⟨h1, h2, h3⟩ := popc_del s i hs hi10 hi1
  have hy : subB y (s - 2 ^ i) = true := subB_of (fun k hk => by
    have hsk := subB_bit h hk
    have hk10 := testBit_lt10 hs hsk
    by_cases e : k = i
    · subst e; rw [hi2] at hk; cases hk
    · rw [dl_bit s i k hs hi10 hk10 hi1 e]; exact hsk)
  have := subB_popc hy
  omega

theorem popc_pos {s : Nat} (hs : s < 1024) (h : 0 < popc s) : ∃ i, i < 10 ∧ s.testBit i = true := by
  unfold popc at h
  obtain ⟨i, hi, hb⟩ := List.countP_pos_iff.1 h
  exact ⟨i, List.mem_range.1 hi, hb⟩

/-- The sets of n nodes that have k of them at least. -/
def uniQ (n k : Nat) : List Nat := (List.range (2 ^ n)).filter (fun s => decide (k ≤ popc s))

theorem uniQ_mem {n k t : Nat} : t ∈ uniQ n k ↔ t < 2 ^ n ∧ k ≤ popc t := by unfold uniQ; rw [List.mem_filter, List.mem_range, decide_eq_true_iff]

theorem sub_full {n s : Nat} (hs : s < 2 ^ n) : Sub s (2 ^ n - 1) := fun k hk => by
  rw [Nat.testBit_two_pow_sub_one, decide_eq_true_iff]
  rcases Nat.lt_or_ge k n with h1 | h1
  · exact h1
  · rw [Nat.testBit_lt_two_pow (Nat.lt_of_lt_of_le hs (Nat.pow_le_pow_right (by omega) h1))] at hk; cases hk

theorem allQ_uni (n k : Nat) (hn : n ≤ 10) (hk : 1 ≤ k) : allQ 2 (uniM n k n) = uniQ n k := by
  unfold allQ uniQ
  rw [uniM_len]
  refine List.filter_congr (fun s hs => ?_)
  have hs := List.mem_range.1 hs
  have h10 : 2 ^ n ≤ 2 ^ 10 := Nat.pow_le_pow_right (by omega) hn
  rw [Bool.eq_iff_iff, qB_iff, decide_eq_true_iff, uniM_len, uni_decl n k n n (Nat.le_refl _)]
  have hp := pcN_popc n s hn hs
  constructor
  · rintro ⟨h0, _, h2⟩
    have := (uni_closed (d := 1) (k := k) hn hs h0).1 h2
    omega
  · intro h
    have h0 : s ≠ 0 := by
      rintro rfl
      have : popc 0 = 0 := by decide
      omega
    exact ⟨h0, sub_full hs, (uni_closed (d := 1) (k := k) hn hs h0).2 (by omega)⟩

theorem pz_uni {n k t : Nat} (hn : n ≤ 10) : pz (zs (uniQ n k)) t = true ↔ t < 2 ^ n ∧ k ≤ popc t := by
  have h10 : 2 ^ n ≤ 2 ^ 10 := Nat.pow_le_pow_right (by omega) hn
  rw [pz_iff]
  unfold zs
  rw [List.mem_map]
  constructor
  · rintro ⟨_, x, hx, e⟩
    obtain rfl := Int.ofNat.inj e
    exact uniQ_mem.1 hx
  · rintro ⟨h1, h2⟩
    exact ⟨by omega, t, uniQ_mem.2 ⟨h1, h2⟩, rfl⟩

/-- The minimal ones have just k nodes. -/
theorem least_uni {n k : Nat} (hn : n ≤ 10) {l : List Nat} (h : IsLeast (pz (zs (uniQ n k))) l) (t : Nat) : t ∈ l ↔ t < 2 ^ n ∧ popc t = k := by
  have h10 : 2 ^ n ≤ 2 ^ 10 := Nat.pow_le_pow_right (by omega) hn
  rw [h.2.1 t, pz_uni hn]
  constructor
  · rintro ⟨h1, ⟨h2, h3⟩, h4⟩
    refine ⟨h2, ?_⟩
    rcases Nat.lt_or_ge k (popc t) with h5 | h5
    · obtain ⟨i, hi, hb⟩ := popc_pos h1 (by omega)
      obtain ⟨e1, e2, _⟩ := popc_del t i h1 hi hb
      have hlt : t - 2 ^ i < 2 ^ n := Nat.lt_of_le_of_lt (Nat.sub_le _ _) h2
      have := h4 (t - 2 ^ i) ((pz_uni hn).2 ⟨hlt, by omega⟩) e2
      have hp : 1 ≤ 2 ^ i := Nat.one_le_two_pow
      have ht : t ≠ 0 := by rintro rfl; simp at hb
      omega
    · omega
  · rintro ⟨h1, h2⟩
    refine ⟨by omega, ⟨h1, by omega⟩, fun y hy hs => ?_⟩
    have hy2 := (pz_uni hn).1 hy
    by_cases e : y = t
    · exact e
    · have := popc_strict (show t < 1024 by omega) hs e
      omega

theorem least_uni_len {n k : Nat} (hn : n ≤ 10) {l : List Nat} (h : IsLeast (pz (zs (uniQ n k))) l) : l.length = (List.range (2 ^ n)).countP (fun s => decide (popc s = k)) := by
  rw [List.countP_eq_length_filter]
  refine List.Perm.length_eq ((List.perm_ext_iff_of_nodup (asc_nodup h.1) (List.nodup_iff_pairwise_ne.2 ((List.nodup_iff_pairwise_ne.1 List.nodup_range).filter _))).2 (fun t => ?_))
  rw [least_uni hn h t, List.mem_filter, List.mem_range, decide_eq_true_iff]

theorem uniQ_len (n k : Nat) : (uniQ n k).length = (List.range (2 ^ n)).countP (fun s => decide (k ≤ popc s)) := by unfold uniQ; rw [List.countP_eq_length_filter]

theorem least32 {l : List Nat} (h : IsLeast (pz (zs (uniQ 3 2))) l) : l = [3, 5, 6] := by
  refine asc_ext h.1 (show Asc [3, 5, 6] by unfold Asc; decide +kernel) (fun t => ?_)
  rw [least_uni (by omega) h t]
  constructor
  · rintro ⟨h1, h2⟩
    have all : ∀ t : Fin 8, popc t.val = 2 → t.val ∈ [3, 5, 6] := by decide +kernel
    exact all ⟨t, h1⟩ h2
  · intro h1
    have all : ∀ t ∈ [3, 5, 6], t < 2 ^ 3 ∧ popc t = 2 := by decide +kernel
    exact all t h1

theorem uniQ32 : (uniQ 3 2).length = 4 := by decide +kernel

end Go.Proofs.Ytobdnepmjcbjeaa

namespace Go.Proofs.Ytobdnepmjcbjeaa
set_option linter.unusedVariables false
set_option linter.unusedSimpArgs false
open Go.RowKit

theorem bgrownD {w a b : World} {sb : Nat} (h : Below w.heap.size w a) (hg : a.grownBy b (some sb)) (hs : w.heap.size ≤ sb) : Below w.heap.size w b :=
  h.grown hg h.size (fun k hk => by cases hk; exact hs)

theorem cnt_same {α β : Type} (P : α → Bool) (f : α → β) (dead good : β → Bool) : ∀ (l : List α), (∀ x ∈ l, P x = true ↔ dead (f x) = true ∨ good (f x) = true) → cnt P l = cnt dead (l.map f) + cnt good ((l.map f).filter (fun y => !dead y))
  | [], _ => by simp [cnt]
  | x :: l, h => by
    have ih := cnt_same P f dead good l (fun y hy => h y (List.mem_cons_of_mem _ hy))
    have h1 := h x List.mem_cons_self
    unfold cnt at *
    rw [List.map_cons, List.filter_cons, List.filter_cons, List.filter_cons]
    cases hd : dead (f x) <;> cases hp : P x <;> cases hg : good (f x) <;> simp [hd, hp, hg] at h1 <;> simp [List.filter_cons, hg] <;> simp at ih <;> omega

theorem holds_less {n : Int} {s : Nat} {p q : Int → Bool} (h : ∀ x, 0 ≤ x → x < n → (p x = true ↔ hasB (s : Int) x = true ∨ q x = true)) : ∀ (d : Nat) (T : Tree), WF n d T → (holdsT d p T = true ↔ deadT (lessT s d T) = true ∨ holdsT d q (lessT s d T) = true)
  | 0, T, w => w.elim
  | d + 1, .mk thr ns is, w => by
    obtain ⟨h1, _, _, _, h5, _, hi⟩ := w
    have e1 := cnt_same p id (hasB (s : Int)) q ns (fun x hx => h x (h5 x hx).1 (h5 x hx).2)
    have e2 := cnt_same (holdsT d p) (lessT s d) deadT (holdsT d q) is (fun T hT => holds_less h d T (hi T hT))
    rw [List.map_id] at e1
    show decide (thr ≤ ((cnt p ns + cnt (holdsT d p) is : Nat) : Int)) = true ↔ decide ((((thr.toNat - cnt (hasB (s : Int)) ns - cnt deadT (is.map (lessT s d)) : Nat)) : Int) ≤ 0) = true ∨ decide ((((thr.toNat - cnt (hasB (s : Int)) ns - cnt deadT (is.map (lessT s d)) : Nat)) : Int) ≤ ((cnt q (ns.filter (fun k => !hasB (s : Int) k)) + cnt (holdsT d q) ((is.map (lessT s d)).filter (fun T => !deadT T)) : Nat) : Int)) = true
    rw [decide_eq_true_iff, decide_eq_true_iff, decide_eq_true_iff, e1, e2]
    omega

theorem del_holds {n : Int} {s k : Nat} {p q : Int → Bool} (hk : q (k : Int) = true) (h : ∀ x, 0 ≤ x → x < n → (p x = true ↔ hasB (s : Int) x = true ∨ q x = true)) (d : Nat) (T : Tree) (w : WF n (d + 1) T) : holdsT (d + 1) q (delT s k (d + 1) T) = holdsT (d + 1) p T := by
  rw [Bool.eq_iff_iff, holds_less h _ _ w]
  unfold delT
  cases hd : deadT (lessT s (d + 1) T)
  · simp
  · rw [if_pos rfl]
    have : holdsT (d + 1) q (.mk 1 [(k : Int)] []) = true := by
      show decide ((1 : Int) ≤ ((cnt q [(k : Int)] + cnt (holdsT d q) [] : Nat) : Int)) = true
      unfold cnt
      simp [List.filter_cons, hk]
    simp [this]

theorem sat_of {d : Nat} {T : Tree} {s : Nat} (hs : s < 1024) : satB d T (s : Int) = holdsT d (hasB (s : Int)) T := by
  unfold satB
  rw [setB_iff.2 ⟨by omega, by omega⟩, Bool.true_and]

/-- What deletion means. -/
theorem del_means {n : Int} (hn : n ≤ 10) {g k z y : Nat} {d : Nat} {T : Tree} (w : WF n (d + 1) T) (hg : g < 1024) (hz : z < 1024) (hy : y < 1024) (hk : k < 10) (hkz : z.testBit k = true) (hb : ∀ K, K < 10 → y.testBit K = (g.testBit K || z.testBit K)) : satB (d + 1) (delT g k (d + 1) T) (z : Int) = satB (d + 1) T (y : Int) := by
  rw [sat_of hz, sat_of hy]
  refine del_holds (by rw [hasB_bit hz hk]; exact hkz) (fun x h0 h1 => ?_) d T w
  obtain ⟨X, rfl⟩ := Int.eq_ofNat_of_zero_le h0
  rw [hasB_bit hy (by omega), hasB_bit hg (by omega), hasB_bit hz (by omega), hb X (by omega), Bool.or_eq_true]

/-- Deletion makes it easier. -/
theorem del_grows {n : Int} (hn : n ≤ 10) {g k z : Nat} {d : Nat} {T : Tree} (w : WF n (d + 1) T) (hg : g < 1024) (hz : z < 1024) (hk : k < 10) (hkz : z.testBit k = true) (hkg : g.testBit k = false) (h : satB (d + 1) T (z : Int) = true) : satB (d + 1) (delT g k (d + 1) T) ((minS z g : Nat) : Int) = true := by
  have hzg : z ||| g < 1024 := Nat.or_lt_two_pow (n := 10) hz hg
  rw [del_means hn w hg (minS_lt hz) hzg hk (by rw [minS_bit, hkz, hkg]; rfl) (fun K _ => by
    rw [Nat.testBit_or, minS_bit]
    cases z.testBit K <;> cases g.testBit K <;> rfl)]
  exact sat_sub hzg (fun K hK => by rw [Nat.testBit_or, hK]; rfl) h

end Go.Proofs.Ytobdnepmjcbjeaa

namespace Go.Proofs.Ytobdnepmjcbjeaa
set_option linter.unusedVariables false
set_option linter.unusedSimpArgs false
open Go.RowKit

theorem decl_one (s k : Nat) (m : Mem) : (delOne s k m).1 = (m.1 && !hasB (s : Int) (k : Int)) := by
  unfold delOne
  cases h : hasB (s : Int) (k : Int)
  · obtain ⟨b, T⟩ := m
    cases b <;> simp
  · simp

theorem decl_del {ms : List Mem} {s : Nat} (hl : ms.length ≤ 10) (hs : s < 1024) : declS (delM s ms) (delM s ms).length = minS (declS ms ms.length) s := by
  apply Nat.eq_of_testBit_eq
  intro k
  rw [minS_bit, declS_iff, declS_iff, delM_len]
  rcases Nat.lt_or_ge k ms.length with hk | hk
  · have hm : ms[k]? = some (ms[k]'hk) := List.getElem?_eq_getElem hk
    have hd := delM_get (s := s) hm
    rw [List.getD_eq_getElem?_getD, hd, List.getD_eq_getElem?_getD, hm]
    simp only [Option.getD_some, hk, decide_true, Bool.true_and]
    rw [decl_one, hasB_bit hs (by omega)]
  · rw [decide_eq_false (by omega)]; rfl

theorem trOf_get {ms : List Mem} {k : Nat} {m : Mem} (h : ms[k]? = some m) : trOf ms k = m.2 := by
  unfold trOf
  rw [List.getD_eq_getElem?_getD, h]; rfl

theorem mem_decl {ms : List Mem} {k : Nat} (h : (declS ms ms.length).testBit k = true) : ∃ m, ms[k]? = some m ∧ m.1 = true ∧ k < ms.length := by
  rw [declS_iff, Bool.and_eq_true] at h
  have hk := of_decide_eq_true h.1
  refine ⟨ms[k]'hk, List.getElem?_eq_getElem hk, ?_, hk⟩
  have := h.2
  rw [List.getD_eq_getElem?_getD, List.getElem?_eq_getElem hk] at this
  exact this

theorem trOf_del {ms : List Mem} {s k : Nat} {m : Mem} (hs : s < 1024) (hk : k < 10) (h : ms[k]? = some m) (hd : m.1 = true) (hb : s.testBit k = false) : trOf (delM s ms) k = delT s k 2 m.2 := by
  rw [trOf_get (delM_get h)]
  unfold delOne
  rw [hasB_bit hs hk, hb, hd]
  simp

theorem uns_iff {d : Nat} {ms : List Mem} {s k : Nat} (hs : s < 1024) (hk : k < 10) : uns d ms s k = (s.testBit k && !satB d (trOf ms k) (s : Int)) := by
  unfold uns
  rw [hasB_bit hs hk]

/-- What is left of a quorum is closed behind the deletion. -/
theorem closed_del {ms : List Mem} {s q : Nat} (hl : ms.length ≤ 10) (hs : s < 1024) (hq : q < 1024) (hok : MemsOk ms.length ms) (hsub : Sub q (declS ms ms.length)) (hc : Closed 2 ms q) : Closed 2 (delM s ms) (minS q s) := by
  intro k hk
  rw [delM_len] at hk
  have hk10 : k < 10 := by omega
  rw [uns_iff (minS_lt hq) hk10, minS_bit]
  cases hqk : q.testBit k
  · rfl
  · cases hsk : s.testBit k
    · obtain ⟨m, hm, hd, _⟩ := mem_decl (hsub k hqk)
      have hw := (hok m (List.mem_of_getElem? hm)).1 hd
      have h1 := hc k hk
      rw [uns_iff hq hk10, hqk, trOf_get hm, Bool.true_and, Bool.not_eq_false'] at h1
      rw [trOf_del hs hk10 hm hd hsk, del_grows (n := ms.length) (by omega) hw hs hq hk10 hqk hsk h1]
      rfl
    · rfl

/-- Is each member of y, below k, satisfied by o? -/
def allF (ms : List Mem) (y o : Nat) (b : Bool) : Nat → Bool
  | 0 => b
  | k + 1 => allF ms y o b k && !(y.testBit k && !satB 2 (trOf ms k) (o : Int))

theorem allF_iff {ms : List Mem} {y o : Nat} {b : Bool} : ∀ n, allF ms y o b n = true ↔ b = true ∧ ∀ k, k < n → y.testBit k = true → satB 2 (trOf ms k) (o : Int) = true
  | 0 => by simp [allF]
  | n + 1 => by
    rw [allF, Bool.and_eq_true, allF_iff n]
    constructor
    · rintro ⟨⟨h1, h2⟩, h3⟩
      refine ⟨h1, fun k hk hy => ?_⟩
      rcases Nat.lt_or_ge k n with h | h
      · exact h2 k h hy
      · obtain rfl : k = n := by omega
        simpa [hy] using h3
    · rintro ⟨h1, h2⟩
      refine ⟨⟨h1, fun k hk hy => h2 k (by omega) hy⟩, ?_⟩
      cases hy : y.testBit n
      · simp
      · simp [h2 n (by omega) hy]

/-- A set without deleted nodes is a quorum behind the deletion exactly if each of its nodes is satisfied by it with the deleted nodes. -/
theorem quor_del {ms : List Mem} {s y o : Nat} {b : Bool} (hl : ms.length ≤ 10) (hs : s < 1024) (hy : y < 1024) (ho : y ||| s = o) (hys : ∀ k, y.testBit k = true → s.testBit k = false) (hok : MemsOk ms.length ms)
    (hb : b = true ↔ y ≠ 0 ∧ Sub y (declS (delM s ms) (delM s ms).length) ∧ Closed 2 (delM s ms) y) (c : Bool) (hc : c = true ↔ y ≠ 0 ∧ Sub y (declS ms ms.length)) : b = allF ms y o c ms.length := by
  rw [Bool.eq_iff_iff, hb, allF_iff, hc]
  have hol : o < 1024 := by rw [← ho]; exact Nat.or_lt_two_pow (n := 10) hy hs
  have hsub : Sub y (declS (delM s ms) (delM s ms).length) ↔ Sub y (declS ms ms.length) := by
    rw [decl_del hl hs]
    constructor
    · intro h k hk
      have := h k hk
      rw [minS_bit, Bool.and_eq_true] at this
      exact this.1
    · intro h k hk
      rw [minS_bit, h k hk, hys k hk]; rfl
  rw [hsub]
  have key : ∀ k, Sub y (declS ms ms.length) → k < ms.length → y.testBit k = true → satB 2 (trOf (delM s ms) k) (y : Int) = satB 2 (trOf ms k) (o : Int) := fun k hD hk hyk => by
    have hk10 : k < 10 := by omega
    obtain ⟨m, hm, hd, _⟩ := mem_decl (hD k hyk)
    have hw := (hok m (List.mem_of_getElem? hm)).1 hd
    rw [trOf_del hs hk10 hm hd (hys k hyk), trOf_get hm]
    exact del_means (n := ms.length) (by omega) hw hs hy hol hk10 hyk (fun K _ => by rw [← ho, Nat.testBit_or, Bool.or_comm])
  constructor
  · rintro ⟨h1, h2, h3⟩
    refine ⟨⟨h1, h2⟩, fun k hk hyk => ?_⟩
    have h4 := h3 k (by rw [delM_len]; exact hk)
    rw [uns_iff hy (by omega), hyk, Bool.true_and, Bool.not_eq_false'] at h4
    rw [← key k h2 hk hyk]; exact h4
  · rintro ⟨⟨h1, h2⟩, h3⟩
    refine ⟨h1, h2, fun k hk => ?_⟩
    rw [delM_len] at hk
    rw [uns_iff hy (by omega)]
    cases hyk : y.testBit k
    · rfl
    · rw [key k h2 hk hyk, h3 k hk hyk]; rfl

theorem sub_and_eq {y D : Nat} : y &&& D = y ↔ Sub y D := by
  constructor
  · intro h k hk
    rw [← h, Nat.testBit_and, Bool.and_eq_true] at hk
    exact hk.2
  · intro h
    apply Nat.eq_of_testBit_eq
    intro k
    rw [Nat.testBit_and]
    cases hk : y.testBit k
    · rfl
    · rw [h k hk]; rfl

end Go.Proofs.Ytobdnepmjcbjeaa

namespace Go.Proofs.Ytobdnepmjcbjeaa
set_option linter.unusedVariables false
set_option linter.unusedSimpArgs false

def Dis (a b : Nat) : Prop := ∀ k, a.testBit k = true → b.testBit k = false

theorem Dis.symm {a b : Nat} (h : Dis a b) : Dis b a := fun k hk => by
  cases ha : a.testBit k
  · rfl
  · rw [h k ha] at hk; cases hk

theorem lt_pow_of {q n : Nat} (h : ∀ k, q.testBit k = true → k < n) : q < 2 ^ n := Nat.lt_pow_two_of_testBit _ (fun i hi => by
  cases hb : q.testBit i
  · rfl
  · have := h i hb; omega)

theorem bitLt {q n k : Nat} (hq : q < 2 ^ n) (h : q.testBit k = true) : k < n := by
  rcases Nat.lt_or_ge k n with h1 | h1
  · exact h1
  · rw [Nat.testBit_lt_two_pow (Nat.lt_of_lt_of_le hq (Nat.pow_le_pow_right (by omega) h1))] at h; cases h

theorem full_bit {n k : Nat} : (2 ^ n - 1).testBit k = true ↔ k < n := by rw [Nat.testBit_two_pow_sub_one, decide_eq_true_iff]

theorem cnt_or : ∀ (l : List Nat) (a s : Nat), Dis a s → l.countP (fun k => (a ||| s).testBit k) = l.countP (fun k => a.testBit k) + l.countP (fun k => s.testBit k)
  | [], _, _, _ => rfl
  | x :: l, a, s, h => by
    have ih := cnt_or l a s h
    rw [List.countP_cons, List.countP_cons, List.countP_cons, ih, Nat.testBit_or]
    cases ha : a.testBit x
    · simp; omega
    · rw [h x ha]; simp; omega

theorem popc_or {a s : Nat} (h : Dis a s) : popc (a ||| s) = popc a + popc s := cnt_or _ a s h

theorem popcLe {n s : Nat} (hn : n ≤ 10) (hs : s < 2 ^ n) : popc s ≤ n := by
  rw [← pcN_popc n s hn hs]
  unfold pcN
  exact Nat.le_trans List.countP_le_length (by simp)

theorem or_lt {n a b : Nat} (ha : a < 2 ^ n) (hb : b < 2 ^ n) : a ||| b < 2 ^ n := Nat.or_lt_two_pow ha hb

theorem popc_two {n a b : Nat} (hn : n ≤ 10) (ha : a < 2 ^ n) (hb : b < 2 ^ n) (h : Dis a b) : popc a + popc b ≤ n := by
  rw [← popc_or h]
  exact popcLe hn (or_lt ha hb)

/-- A set without another. -/
theorem popc_rest {c a : Nat} (h : Sub a c) : popc (minS c a) + popc a = popc c := by
  have hd : Dis (minS c a) a := fun k hk => by
    rw [minS_bit] at hk
    cases ha : a.testBit k
    · rfl
    · rw [ha] at hk; simp at hk
  rw [← popc_or hd]
  congr 1
  apply Nat.eq_of_testBit_eq
  intro k
  rw [Nat.testBit_or, minS_bit]
  cases ha : a.testBit k
  · simp
  · simp [h k ha]

theorem minS_lt2 {n c a : Nat} (h : c < 2 ^ n) : minS c a < 2 ^ n := lt_pow_of (fun k hk => by
  rw [minS_bit, Bool.and_eq_true] at hk
  exact bitLt h hk.1)

/-- There is a part of each size. -/
theorem sub_size : ∀ (m c r : Nat), c < 1024 → popc c = r + m → ∃ a, Sub a c ∧ popc a = r
  | 0, c, r, _, h => ⟨c, fun k hk => hk, by omega⟩
  | m + 1, c, r, hc, h => by
    obtain ⟨i, hi, hb⟩ := popc_pos hc (by omega)
    obtain ⟨e1, e2, _⟩ := popc_del c i hc hi hb
    obtain ⟨a, h1, h2⟩ := sub_size m (c - 2 ^ i) r (Nat.lt_of_le_of_lt (Nat.sub_le _ _) hc) (by omega)
    exact ⟨a, fun k hk => subB_bit e2 (h1 k hk), h2⟩

theorem sub_lt {n a c : Nat} (h : Sub a c) (hc : c < 2 ^ n) : a < 2 ^ n := lt_pow_of (fun k hk => bitLt hc (h k hk))

theorem sub_dis {a c s : Nat} (h : Sub a c) (hd : Dis c s) : Dis a s := fun k hk => hd k (h k hk)

theorem rest_dis {c a : Nat} : Dis (minS c a) a := fun k hk => by
  rw [minS_bit] at hk
  cases ha : a.testBit k
  · rfl
  · rw [ha] at hk; simp at hk

theorem popc_full (n : Nat) (hn : n ≤ 10) : popc (2 ^ n - 1) = n := by
  have all : ∀ n : Fin 11, popc (2 ^ n.val - 1) = n.val := by decide +kernel
  exact all ⟨n, by omega⟩

theorem popc_zero : popc 0 = 0 := by decide

/-- When is a set closed after the deletion of s? -/
theorem delU_closed {n k s A : Nat} (hn : n ≤ 10) (hk : 1 ≤ k) (hkn : k ≤ n) (hs : s < 2 ^ n) (hA : A < 2 ^ n) (h0 : A ≠ 0) (hd : Dis A s) : Closed 2 (delM s (uniM n k n)) A ↔ k ≤ popc (A ||| s) := by
  have h10 : 2 ^ n ≤ 2 ^ 10 := Nat.pow_le_pow_right (by omega) hn
  have hok := uni_ok hn hk hkn
  have hor := or_lt hA hs
  have key : ∀ j, A.testBit j = true → uns 2 (delM s (uniM n k n)) A j = !decide (k ≤ popc (A ||| s)) := fun j hj => by
    have hjn := bitLt hA hj
    have hget : (uniM n k n)[j]? = some (true, uniT n k) := by
      unfold uniM
      rw [List.getElem?_replicate, if_pos hjn]
    have hmem := List.mem_of_getElem? hget
    rw [uns_iff (by omega) (by omega), hj, Bool.true_and, trOf_del (by omega) (by omega) hget rfl (hd j hj)]
    rw [del_means (n := ((uniM n k n).length : Int)) (by rw [uniM_len]; omega) ((hok _ hmem).1 rfl) (by omega) (by omega) (show A ||| s < 1024 by omega) (by omega) hj (fun K _ => by rw [Nat.testBit_or, Bool.or_comm])]
    rw [uni_sat hn (by omega), pcN_popc n _ hn hor]
  constructor
  · intro h
    obtain ⟨j, hj⟩ : ∃ j, A.testBit j = true := Classical.byContradiction (fun hc => h0 (Nat.eq_of_testBit_eq (fun i => by
      rw [Nat.zero_testBit]
      cases hb : A.testBit i
      · rfl
      · exact (hc ⟨i, hb⟩).elim)))
    have h1 := h j (by rw [delM_len, uniM_len]; exact bitLt hA hj)
    rw [key j hj] at h1
    simpa using h1
  · intro h j hj
    rw [delM_len, uniM_len] at hj
    cases hb : A.testBit j
    · rw [uns_iff (by omega) (by omega), hb]; rfl
    · rw [key j hb, decide_eq_true h]; rfl

theorem spl_uni {n k s : Nat} (hn : n ≤ 10) (hk : 1 ≤ k) (hkn : k ≤ n) (hs : s < 2 ^ n) : Spl (uniM n k n) s ↔ ∃ A B, A < 2 ^ n ∧ B < 2 ^ n ∧ A ≠ 0 ∧ B ≠ 0 ∧ Dis A s ∧ Dis B s ∧ Dis A B ∧ k ≤ popc (A ||| s) ∧ k ≤ popc (B ||| s) := by
  have h10 : 2 ^ n ≤ 2 ^ 10 := Nat.pow_le_pow_right (by omega) hn
  have hD : declS (delM s (uniM n k n)) (delM s (uniM n k n)).length = minS (2 ^ n - 1) s := by
    rw [decl_del (by rw [uniM_len]; exact hn) (by omega), uniM_len, uni_decl n k n n (Nat.le_refl _)]
  unfold Spl Apart IsQ
  rw [hD, delM_len, uniM_len]
  constructor
  · rintro ⟨t, ht, ⟨t0, ts, tc⟩, q, hq, q0, qs, qc⟩
    have td : Dis t s := sub_dis ts rest_dis
    have qs2 := sub_and.1 qs
    have qd : Dis q s := sub_dis qs2.2 rest_dis
    have hq2 : q < 2 ^ n := lt_pow_of (fun k hk => by
      have := qs2.1 k hk
      rw [outS_bit, Bool.and_eq_true, decide_eq_true_iff] at this
      exact this.1)
    refine ⟨t, q, ht, hq2, t0, q0, td, qd, ?_, (delU_closed hn hk hkn hs ht t0 td).1 tc, (delU_closed hn hk hkn hs hq2 q0 qd).1 qc⟩
    refine Dis.symm (fun k hk => ?_)
    have := qs2.1 k hk
    rw [outS_bit, Bool.and_eq_true] at this
    simpa using this.2
  · rintro ⟨t, q, ht, hq, t0, q0, td, qd, hd, tc, qc⟩
    refine ⟨t, ht, ⟨t0, fun k hk => ?_, (delU_closed hn hk hkn hs ht t0 td).2 tc⟩, q, by omega, q0, fun k hk => ?_, (delU_closed hn hk hkn hs hq q0 qd).2 qc⟩
    · rw [minS_bit, td k hk, full_bit.2 (bitLt ht hk)]; rfl
    · rw [Nat.testBit_and, outS_bit, minS_bit, qd k hk, full_bit.2 (bitLt hq hk), hd.symm k hk, decide_eq_true (bitLt hq hk)]; rfl

/-- What splits is large enough. -/
theorem spl_ge {n k s : Nat} (hn : n ≤ 10) (hk : 1 ≤ k) (hkn : k ≤ n) (hs : s < 2 ^ n) (h : Spl (uniM n k n) s) : 2 * k ≤ n + popc s ∧ k < n := by
  obtain ⟨A, B, hA, hB, A0, B0, dA, dB, dAB, kA, kB⟩ := (spl_uni hn hk hkn hs).1 h
  have h10 : 2 ^ n ≤ 2 ^ 10 := Nat.pow_le_pow_right (by omega) hn
  rw [popc_or dA] at kA
  rw [popc_or dB] at kB
  have d3 : Dis (A ||| B) s := fun k hk => by
    rw [Nat.testBit_or, Bool.or_eq_true] at hk
    rcases hk with h | h
    · exact dA k h
    · exact dB k h
  have h3 := popc_two hn (or_lt hA hB) hs d3
  rw [popc_or dAB] at h3
  have hB1 : 1 ≤ popc B := by
    rcases Nat.eq_zero_or_pos (popc B) with e | e
    · exfalso
      refine B0 (Nat.eq_of_testBit_eq (fun i => ?_))
      rw [Nat.zero_testBit]
      cases hb : B.testBit i
      · rfl
      · unfold popc at e
        rw [List.countP_eq_zero] at e
        exact (e i (List.mem_range.2 (by have := bitLt hB hb; omega)) hb).elim
    · exact e
  omega

/-- And a set of that size splits. -/
theorem spl_at {n k s : Nat} (hn : n ≤ 10) (hk : 1 ≤ k) (hkn : k < n) (hs : s < 2 ^ n) (h : popc s = 2 * k - n) : Spl (uniM n k n) s := by
  have h10 : 2 ^ n ≤ 2 ^ 10 := Nat.pow_le_pow_right (by omega) hn
  have hp1 : 1 ≤ 2 ^ n := Nat.one_le_two_pow
  obtain ⟨c, hc⟩ : ∃ c, minS (2 ^ n - 1) s = c := ⟨_, rfl⟩
  have hcl : c < 2 ^ n := by rw [← hc]; exact minS_lt2 (by omega)
  have hcp := popc_rest (c := 2 ^ n - 1) (a := s) (fun k hk => full_bit.2 (bitLt hs hk))
  have hcd : Dis c s := by rw [← hc]; exact rest_dis
  rw [hc, popc_full n hn] at hcp
  obtain ⟨A, hA1, hA2⟩ := sub_size (n - k) c (k - (2 * k - n)) (by omega) (by omega)
  have hA := sub_lt hA1 hcl
  have hB := minS_lt2 (a := A) hcl
  have hBp := popc_rest hA1
  have hBd : Dis (minS c A) s := fun k hk => by
    rw [minS_bit, Bool.and_eq_true] at hk
    exact hcd k hk.1
  refine (spl_uni hn hk (by omega) hs).2 ⟨A, minS c A, hA, hB, fun e => ?_, fun e => ?_, sub_dis hA1 hcd, hBd, rest_dis.symm, ?_, ?_⟩
  · rw [e, popc_zero] at hA2; omega
  · rw [e, popc_zero] at hBp; omega
  · rw [popc_or (sub_dis hA1 hcd)]; omega
  · rw [popc_or hBd]; omega

theorem pz_allS {ms : List Mem} {t : Nat} (hl : ms.length ≤ 10) : pz (zs (allS ms)) t = true ↔ t < 2 ^ ms.length ∧ Spl ms t := by
  have h10 : 2 ^ ms.length ≤ 2 ^ 10 := Nat.pow_le_pow_right (by omega) hl
  rw [pz_iff]
  unfold zs
  rw [List.mem_map]
  constructor
  · rintro ⟨_, x, hx, e⟩
    obtain rfl := Int.ofNat.inj e
    have h := (allS_mem ms _).1 hx
    exact ⟨h.1, (spB_iff ms _).1 h.2⟩
  · rintro ⟨h1, h2⟩
    exact ⟨by omega, t, (allS_mem ms t).2 ⟨h1, (spB_iff ms t).2 h2⟩, rfl⟩

theorem split_mem {n k : Nat} (hn : n ≤ 10) (hk : 1 ≤ k) (hkn : k ≤ n) {l : List Nat} (h : IsLeast (pz (zs (allS (uniM n k n)))) l) (t : Nat) : t ∈ l ↔ t < 2 ^ n ∧ k < n ∧ popc t = 2 * k - n := by
  have h10 : 2 ^ n ≤ 2 ^ 10 := Nat.pow_le_pow_right (by omega) hn
  have hp := fun t => pz_allS (ms := uniM n k n) (t := t) (by rw [uniM_len]; exact hn)
  simp only [uniM_len] at hp
  rw [h.2.1 t]
  constructor
  · rintro ⟨h1, h2, h3⟩
    obtain ⟨h2, h4⟩ := (hp t).1 h2
    obtain ⟨h5, h6⟩ := spl_ge hn hk hkn h2 h4
    refine ⟨h2, h6, ?_⟩
    obtain ⟨a, ha1, ha2⟩ := sub_size (popc t - (2 * k - n)) t (2 * k - n) h1 (by omega)
    have := h3 a ((hp a).2 ⟨sub_lt ha1 h2, spl_at hn hk h6 (sub_lt ha1 h2) ha2⟩) (subB_of ha1)
    rw [← this]; exact ha2
  · rintro ⟨h1, h2, h3⟩
    refine ⟨by omega, (hp t).2 ⟨h1, spl_at hn hk h2 h1 h3⟩, fun y hy hs => ?_⟩
    obtain ⟨hy1, hy2⟩ := (hp y).1 hy
    have h4 := (spl_ge hn hk hkn hy1 hy2).1
    by_cases e : y = t
    · exact e
    · have := popc_strict (show t < 1024 by omega) hs e
      omega

/-- What meets all sets of k nodes. -/
theorem meet_uni {n k : Nat} (hn : n ≤ 10) (hk : 1 ≤ k) (hkn : k ≤ n) {q : List Nat} (hq : ∀ t, t ∈ q ↔ t < 2 ^ n ∧ popc t = k) : meetB n q = pz (zs (uniQ n (n - k + 1))) := by
  have h10 : 2 ^ n ≤ 2 ^ 10 := Nat.pow_le_pow_right (by omega) hn
  have hp1 : 1 ≤ 2 ^ n := Nat.one_le_two_pow
  funext s
  rw [Bool.eq_iff_iff, pz_uni hn]
  unfold meetB
  rw [Bool.and_eq_true, decide_eq_true_iff, Bool.not_eq_true']
  refine and_congr_right (fun hs => ?_)
  rw [List.any_eq_false]
  constructor
  · intro h
    rcases Nat.lt_or_ge (popc s) (n - k + 1) with h1 | h1
    · exfalso
      have hcp := popc_rest (c := 2 ^ n - 1) (a := s) (fun k hk => full_bit.2 (bitLt hs hk))
      rw [popc_full n hn] at hcp
      have hcl : minS (2 ^ n - 1) s < 2 ^ n := minS_lt2 (by omega)
      obtain ⟨a, ha1, ha2⟩ := sub_size (popc (minS (2 ^ n - 1) s) - k) (minS (2 ^ n - 1) s) k (by omega) (by omega)
      have := h a ((hq a).2 ⟨sub_lt ha1 hcl, ha2⟩)
      refine this (beq_iff_eq.2 (Nat.eq_of_testBit_eq (fun i => ?_)))
      rw [Nat.testBit_and, Nat.zero_testBit]
      cases hb : a.testBit i
      · simp
      · rw [sub_dis ha1 rest_dis i hb]; rfl
    · exact h1
  · intro h t ht e
    obtain ⟨ht1, ht2⟩ := (hq t).1 ht
    have e := beq_iff_eq.1 e
    have hd : Dis s t := fun i hi => by
      have : (s &&& t).testBit i = false := by rw [e, Nat.zero_testBit]
      rw [Nat.testBit_and, hi] at this
      simpa using this
    have := popc_two hn hs ht1 hd
    omega

theorem halt_mem {n k : Nat} (hn : n ≤ 10) (hk : 1 ≤ k) (hkn : k ≤ n) {q l : List Nat} (hq : IsLeast (pz (zs (allQ 2 (uniM n k n)))) q) (h : IsLeast (meetB (uniM n k n).length q) l) (t : Nat) : t ∈ l ↔ t < 2 ^ n ∧ popc t = n - k + 1 := by
  rw [allQ_uni n k hn hk] at hq
  rw [uniM_len, meet_uni hn hk hkn (least_uni hn hq)] at h
  exact least_uni hn h t

theorem asc43 : Asc [3, 5, 6, 9, 10, 12] := by unfold Asc; decide +kernel

theorem mem43 (t : Nat) : (t < 2 ^ 4 ∧ popc t = 2) ↔ t ∈ [3, 5, 6, 9, 10, 12] := by
  constructor
  · rintro ⟨h1, h2⟩
    have all : ∀ t : Fin 16, popc t.val = 2 → t.val ∈ [3, 5, 6, 9, 10, 12] := by decide +kernel
    exact all ⟨t, h1⟩ h2
  · intro h1
    have all : ∀ t ∈ [3, 5, 6, 9, 10, 12], t < 2 ^ 4 ∧ popc t = 2 := by decide +kernel
    exact all t h1

theorem split43 {l : List Nat} (h : IsLeast (pz (zs (allS (uniM 4 3 4)))) l) : l = [3, 5, 6, 9, 10, 12] :=
  asc_ext h.1 asc43 (fun t => by
    rw [split_mem (by omega) (by omega) (by omega) h t, ← mem43]
    simp)

theorem halt43 {q l : List Nat} (hq : IsLeast (pz (zs (allQ 2 (uniM 4 3 4)))) q) (h : IsLeast (meetB (uniM 4 3 4).length q) l) : l = [3, 5, 6, 9, 10, 12] :=
  asc_ext h.1 asc43 (fun t => by rw [halt_mem (by omega) (by omega) (by omega) hq h t, ← mem43])

end Go.Proofs.Ytobdnepmjcbjeaa

namespace Go.Proofs.Ytobdnepmjcbjeaa
set_option linter.unusedVariables false
set_option linter.unusedSimpArgs false
open Go.RowKit

/-- Members in a row of its own, with trusts that lie below B0. -/
def RowP (P : Nat → Prop) (B d : Nat) (W : World) (v : Value) (rs : List Mem) : Prop :=
  ∃ cs : List Value, W.ownsRow B 39 4 v rs.length cs ∧ ∀ k m, rs[k]? = some m → ∃ x0 x1 x2, cs[k * 4]? = some (.bool m.1) ∧ cs[k * 4 + 1]? = some x0 ∧ cs[k * 4 + 2]? = some x1 ∧ cs[k * 4 + 3]? = some x2 ∧ TAt P d W x0 x1 x2 m.2

theorem RowP.app {P : Nat → Prop} {B d : Nat} {wo W5 : World} {v' x0 x1 x2 : Value} {rs : List Mem} {m : Mem} {cs : List Value}
    (hcl : ∀ k m, rs[k]? = some m → ∃ x0 x1 x2, cs[k * 4]? = some (.bool m.1) ∧ cs[k * 4 + 1]? = some x0 ∧ cs[k * 4 + 2]? = some x1 ∧ cs[k * 4 + 3]? = some x2 ∧ TAt P d wo x0 x1 x2 m.2) (hcn : cs.length = rs.length * 4)
    (keep : ∀ q, P q → q < wo.heap.size → W5.heap[q]? = wo.heap[q]?) (hT : TAt P d wo x0 x1 x2 m.2) (hown5 : W5.ownsRow B 39 4 v' (rs.length + 1) (cs ++ [.bool m.1, x0, x1, x2])) : RowP P B d W5 v' (rs ++ [m]) := by
  refine ⟨cs ++ [.bool m.1, x0, x1, x2], by simpa using hown5, fun k S hS => ?_⟩
  rcases Nat.lt_or_ge k rs.length with hk | hk
  · rw [List.getElem?_append_left hk] at hS
    obtain ⟨y0, y1, y2, e0, e1, e2, e3, e4⟩ := hcl k S hS
    exact ⟨y0, y1, y2, by rw [List.getElem?_append_left (by omega)]; exact e0, by rw [List.getElem?_append_left (by omega)]; exact e1, by rw [List.getElem?_append_left (by omega)]; exact e2, by rw [List.getElem?_append_left (by omega)]; exact e3, e4.keep (fun q hq hP => keep q hP hq)⟩
  · have hk2 : k = rs.length := by
      have := (List.getElem?_eq_some_iff.1 hS).1
      simp at this; omega
    subst hk2
    have hS' : S = m := by simpa using hS.symm
    subst hS'
    refine ⟨x0, x1, x2, ?_, ?_, ?_, ?_, hT.keep (fun q hq hP => keep q hP hq)⟩
    · rw [List.getElem?_append_right (by omega)]; simp [hcn]
    · rw [List.getElem?_append_right (by omega), show rs.length * 4 + 1 - cs.length = 1 by omega]; rfl
    · rw [List.getElem?_append_right (by omega), show rs.length * 4 + 2 - cs.length = 2 by omega]; rfl
    · rw [List.getElem?_append_right (by omega), show rs.length * 4 + 3 - cs.length = 3 by omega]; rfl

theorem RowP.keep {P : Nat → Prop} {B d : Nat} {W W' : World} {v : Value} {rs : List Mem} (h : RowP P B d W v rs) (hk : ∀ q, q < W.heap.size → (P q ∨ B ≤ q) → W'.heap[q]? = W.heap[q]?) : RowP P B d W' v rs := by
  obtain ⟨cs, h1, h2⟩ := h
  refine ⟨cs, own_keepG h1 (fun j _ hB hl => hk j hl (.inr hB)), fun k m hm => ?_⟩
  obtain ⟨x0, x1, x2, e0, e1, e2, e3, e4⟩ := h2 k m hm
  exact ⟨x0, x1, x2, e0, e1, e2, e3, e4.keep (fun q hq hP => hk q hq (.inl hP))⟩

theorem RowP.mems {P : Nat → Prop} {B d : Nat} {W : World} {v : Value} {rs : List Mem} (h : RowP P B d W v rs) : MemsAt (fun _ => True) d W v rs := by
  obtain ⟨cs, h1, h2⟩ := h
  rcases h1.2 with ⟨hv, h0⟩ | ⟨g, cap, cur, hv, hb, _⟩
  · exact ⟨none, 0, by rw [hv, h0], fun k T hT => by have := (List.getElem?_eq_some_iff.1 hT).1; omega⟩
  · refine ⟨some ⟨g, 0, none⟩, cap, hv, fun k m hm => ?_⟩
    obtain ⟨x0, x1, x2, e0, e1, e2, e3, e4⟩ := h2 k m hm
    have c : ∀ j u, cs[j]? = some u → W.cell? ⟨g, 0 + j, none⟩ = some u := fun j u hu => by
      have := h1.cells (g := g) (by rw [hv]; rfl) j u hu
      rwa [Addr.add_lit] at this
    exact ⟨g, 0, x0, x1, x2, rfl, trivial, c _ _ e0, by rw [Nat.add_assoc]; exact c _ _ e1, by rw [Nat.add_assoc]; exact c _ _ e2, by rw [Nat.add_assoc]; exact c _ _ e3, e4.imp (fun q _ hq => trivial)⟩

end Go.Proofs.Ytobdnepmjcbjeaa

namespace Go.Proofs.Ytobdnepmjcbjeaa
set_option linter.unusedVariables false
set_option linter.unusedSimpArgs false
open Go.RowKit

set_option maxRecDepth 100000 in
set_option maxHeartbeats 4000000 in
theorem same16_run (n k : Nat) (hn : n ≤ 10) (hk : k ≤ 100) (w : World) : Calls Try.prog 4 #[.int .i64 (n : Int), .int .i64 (k : Int)] w fun e w' => ∃ v, e = .returned (.agg #[v]) ∧ MemsAt (fun _ => True) 1 w' v (uniM n k n) ∧ Below w.heap.size w w' := by
  obtain ⟨i4, hi4, hy0, hy1, hy2⟩ := info_parts infoMember
  obtain ⟨i0, hin, hz0, hz1, hz2⟩ := info_parts infoInt
  have hb2 : Below w.heap.size w ((w.alloc (.cells #[.slice none 0 0] 24)).alloc (.cells #[.int .i64 (k : Int), .slice none 0 0, .slice none 0 0] 37)) := balloc (balloc (bref w) _) _
  have k1 : ((w.alloc (.cells #[.slice none 0 0] 24)).alloc (.cells #[.int .i64 (k : Int), .slice none 0 0, .slice none 0 0] 37)).heap[w.heap.size]? = some (.cells #[.slice none 0 0] 24 (0, 0)) := alloc_on (alloc_at rfl)
  have k2 : OutAt ((w.alloc (.cells #[.slice none 0 0] 24)).alloc (.cells #[.int .i64 (k : Int), .slice none 0 0, .slice none 0 0] 37)) (w.heap.size + 1) (k : Int) (.slice none 0 0) (.slice none 0 0) := alloc_at (alloc_sz _ _)
  have hsz : ((w.alloc (.cells #[.slice none 0 0] 24)).alloc (.cells #[.int .i64 (k : Int), .slice none 0 0, .slice none 0 0] 37)).heap.size = w.heap.size + 2 := by rw [alloc_sz, alloc_sz]
  have HB := Lib.hid hb2
  have K1 := Lib.hid k1
  have K2 := Lib.hid k2
  clear hb2 k1 k2
  go_enter Try.func4, Try.ntmps4
  go_upto_region 2 with fail
  generalize ((w.alloc (.cells #[.slice none 0 0] 24)).alloc (.cells #[.int .i64 (k : Int), .slice none 0 0, .slice none 0 0] 37)) = W1 at *
  generalize hg : w.heap.size = g at *
  have HG := Lib.hid hg
  clear hg
  go_wp2_with fail
  go_loopw [6] (fun t W => ∃ (j : Nat) (v : Value), j ≤ n ∧ t = .int .i64 j ∧ W.ownsRow (g + 2) 3 1 v j ((nodU j).map (Value.int .i64)) ∧ Hid (OutAt W (g + 1) (k : Int) v (.slice none 0 0)) ∧ Hid (W1.grownBy W (some (g + 1)))) (fun t _ => n - (intOf t).toNat)
  case atStart => exact ⟨0, .slice none 0 0, by omega, rfl, World.ownsRow_nil _ _ _ _, K2, Lib.hid (World.grownBy.refl _ _)⟩
  case round =>
    obtain ⟨j, v, hj, rfl, hown, hO, hGr⟩ := hrel
    have hwr := hGr.out.size
    by_cases hlt : j < n
    · have HOW := Lib.hid (fun (q : Nat) (hq : v.ownBlock = some q) => hown.lt q hq)
      obtain ⟨o0, o1, o2⟩ := hO.out.cs
      have hol := hO.out.lt
      have HNU := Lib.hid (nodU_succ j)
      go_wp2_with (at_builtin; refine wpList_append_own _ rfl _ _ 26 rfl (g + 2) 3 i0 (.int .i64 0) 1 8 Try.underlying26 hin hz0 hz1 hz2 rfl (by decide) _ _ _ rfl (hown.alloc _) ⟨wr.heap.size, 0, none⟩ 1 1 [.int .i64 (j : Int)] rfl rfl (cell_one_new _ _ _) (fun u hu => by simp at hu; subst hu; rfl) (by unfold maxLen; omega) (by omega) (by simp; omega) ?_; intro v' W3 hown3 hgrow3 hnil; obtain ⟨gq, cq, rfl, hgq, hlq⟩ := hown3.form (by omega); have hO3 : OutAt W3 (g + 1) (k : Int) v (.slice none 0 0) := hO.out.keep ((hgrow3.block _ (by simp; omega) (fun e => by have := (HOW.out _ e.symm).1; omega)).trans (Below.heap_alloc _ _ _ hol)); obtain ⟨r0, r1, r2⟩ := hO3.cs; have rf1 := hO3.fr 1)
      have hgB : (wr.alloc (.cells #[.int .i64 (j : Int)] 3)).grownBy W3 v.ownBlock := ⟨hgrow3.os, hgrow3.tape, hgrow3.output, hgrow3.size, hgrow3.block⟩
      have HG4 := Lib.hid (grown_at (gown (grown_trans hGr.out (grown_below (balloc (bref wr) (.cells #[.int .i64 (j : Int)] 3)))) hgB (fun q hq => by have := (HOW.out q hq).1; omega)) 1 (.slice (some ⟨gq, 0, none⟩) (j + 1) cq))
      have HO4 := Lib.hid (hO3.set1 (.slice (some ⟨gq, 0, none⟩) (j + 1) cq))
      have hown4 := Lib.hid ((list_snoc hown3).kept (gset1 W3 ⟨g + 1, 1, none⟩ (.slice (some ⟨gq, 0, none⟩) (j + 1) cq)) (own_below (list_snoc hown3) (by first | omega | simp)))
      clear hgB hown3 hgrow3 hnil hgq hlq hO3 r0 r1 r2 rf1 hown
      go_wp2_with fail
      go_roundw
      case rel => exact ⟨j + 1, _, by omega, by go_num, by rw [HNU.out]; exact hown4.out, HO4, HG4⟩
      case measure => simp [intOf]; omega
    · obtain rfl : j = n := by omega
      obtain ⟨Av, cv, rfl⟩ := own_slice hown
      have hN := NodesAt.of_own (ns := nodU j) (by rw [nodU_len]; exact hown)
      have HN := Lib.hid hN
      obtain ⟨W2, hW2⟩ : ∃ x, x = wr := ⟨_, rfl⟩
      subst hW2
      have hgl2 : g + 2 ≤ W2.heap.size := by omega
      have kc : (W2.alloc (.cells #[.slice none 0 0] 24)).heap[W2.heap.size]? = some (.cells #[.slice none 0 0] 24 (0, 0)) := alloc_at rfl
      have HKC := Lib.hid kc
      have hbc := balloc (bref W2) (.cells #[.slice none 0 0] 24)
      have HO2 := Lib.hid (hO.out.keep (hbc.block _ hO.out.lt))
      have hTT : TAt (fun b => g + 2 ≤ b ∧ b < W2.heap.size) 1 (W2.alloc (.cells #[.slice none 0 0] 24)) (.int .i64 (k : Int)) (.slice Av j cv) (.slice none 0 0) (uniT j k) := by
        have hlen := nodU_len j
        obtain ⟨A', c', e1, e2⟩ := hN
        rw [hlen] at e1 e2
        cases e1
        refine ⟨rfl, by rw [hlen]; omega, by simp, ⟨Av, cv, by rw [hlen], fun q hq => ?_⟩, ⟨none, 0, rfl, fun k T hT => by simp at hT⟩⟩
        rw [hlen] at hq
        obtain ⟨b, off, f1, f2, f3⟩ := e2 q hq
        exact ⟨b, off, f1, ⟨f2, cell_lt f3⟩, (hbc.cell (cell_lt f3)).trans f3⟩
      have HTT := Lib.hid hTT
      have HGC := Lib.hid (grown_trans hGr.out (grown_below (r := some (g + 1)) hbc))
      have hszc : (W2.alloc (.cells #[.slice none 0 0] 24)).heap.size = W2.heap.size + 1 := alloc_sz _ _
      clear hown hN hO hbc hTT kc hGr
      go_upto_region 7 with fail
      generalize hWc : W2.alloc (.cells #[.slice none 0 0] 24) = Wc at *
      clear hWc
      obtain ⟨cb, hcb⟩ : ∃ cb, W2.heap.size = cb := ⟨_, rfl⟩
      have HCB := Lib.hid hcb
      rw [hcb] at HKC HTT hszc hgl2 ⊢
      clear hcb
      go_wp2_with fail
      go_loopw [8] (fun t W => ∃ (i : Nat) (v : Value), i ≤ j ∧ t = .int .i64 i ∧ Hid (RowP (fun b => g + 2 ≤ b ∧ b < cb) (cb + 1) 1 W v (uniM j k i)) ∧ Hid (W.heap[cb]? = some (.cells #[v] 24 (0, 0))) ∧ Hid (Wc.grownBy W (some cb))) (fun t _ => j - (intOf t).toNat)
      case atStart => exact ⟨0, .slice none 0 0, by omega, rfl, Lib.hid ⟨[], World.ownsRow_nil _ _ _ _, fun k T h => by simp [uniM] at h⟩, HKC, Lib.hid (World.grownBy.refl _ _)⟩
      case round =>
        obtain ⟨i, v, hi, rfl, hRow, hOut, hGw⟩ := hrel
        have hwr2 := hGw.out.size
        by_cases hlt2 : i < j
        · have HRS := Lib.hid (uniM_succ j k i)
          have HRL := Lib.hid (uniM_len j k i)
          obtain ⟨cs, hcs, hcl⟩ := hRow.out
          have hcn := hcs.1
          have HCL := Lib.hid hcl
          have HCS := Lib.hid hcs
          have HRO := Lib.hid hcs.lt
          obtain ⟨wo, hwo⟩ : ∃ x, x = wr := ⟨_, rfl⟩
          subst hwo
          have hOx := HO2.out.keep (hGw.out.block (g + 1) HO2.out.lt (by simp; omega))
          obtain ⟨x0, x1, x2⟩ := hOx.cs
          have HTo := Lib.hid (TAt.keep (w' := wo) (fun q hq hP => hGw.out.block q hq (by simp; omega)) HTT.out)
          have HCSA := Lib.hid (HCS.out.alloc (.cells #[.bool true, .int .i64 (k : Int), .slice Av j cv, .slice none 0 0] 39))
          have hba2 := balloc (bref wo) (.cells #[.bool true, .int .i64 (k : Int), .slice Av j cv, .slice none 0 0] 39)
          have HBA2 := Lib.hid hba2
          have HSZA := Lib.hid (alloc_sz wo (.cells #[.bool true, .int .i64 (k : Int), .slice Av j cv, .slice none 0 0] 39))
          have hcl3 : cb < wo.heap.size := by omega
          have q2 : wo.cell? ⟨cb, 0, none⟩ = some v := cell_of_row _ _ 0 _ _ (0, 0) hOut.out
          clear hba2 hcl hcs hOx
          go_wp2_with (at_builtin; refine wpList_append_lies _ rfl _ _ 22 rfl (cb + 1) 39 i4 (.agg #[.bool false, .int .i64 0, .slice none 0 0, .slice none 0 0]) 4 64 Try.underlying22 hi4 hy0 hy1 hy2 rfl (by decide) _ (uniM j k i).length cs rfl (by exact HCSA.out) ⟨_, 0, none⟩ 1 1 [.bool true, .int .i64 (k : Int), .slice Av j cv, .slice none 0 0] rfl rfl (cell_four_new _ _ _ _ _ _) (by intro u hu; simp at hu; rcases hu with rfl | rfl | rfl | rfl <;> rfl) (by omega) (by have := HRL.out; unfold maxLen; omega) (by have := HRL.out; omega) (by have := HSZA.out; omega) _ rfl ?_; intro g4 cap4 W5 hown4 hgrow4 hat4 hlt4; have hcb5 : W5.heap[cb]? = some (.cells #[v] 24 (0, 0)) := (hgrow4.block cb (by have := HSZA.out; omega) (fun e => by have := (HRO.out _ e.symm).1; omega)).trans ((HBA2.out.block cb hcl3).trans hOut.out); have s0 : W5.cell? ⟨cb, 0, none⟩ = some v := cell_of_row _ _ 0 _ _ (0, 0) hcb5; have sf : W5.frozen? ⟨cb, 0, none⟩ = false := by simp [World.frozen?, hcb5])
          have hlow5 : ∀ q, q < cb + 1 → q ≠ cb → (W5.setCell ⟨cb, 0, none⟩ (.slice (some ⟨g4, 0, none⟩) ((uniM j k i).length + 1) cap4)).heap[q]? = wo.heap[q]? := fun q hq hn =>
            (Below.heap_setCell _ _ _ _ (by simpa using hn)).trans ((hgrow4.block q (by have := HSZA.out; omega) (fun e => by have := (HRO.out _ e.symm).1; omega)).trans (HBA2.out.block q (by omega)))
          have hown5 := hown4.kept (gset1 W5 ⟨cb, 0, none⟩ (.slice (some ⟨g4, 0, none⟩) ((uniM j k i).length + 1) cap4)) (.inr (by have h1 := (hown4.lt g4 rfl).1; simp [Value.ownBlock]; omega))
          have hrow5 := RowP.app (m := (true, uniT j k)) HCL.out hcn (fun q hq _ => hlow5 q (by omega) (by omega)) HTo.out hown5
          have hset5 : (W5.setCell ⟨cb, 0, none⟩ (.slice (some ⟨g4, 0, none⟩) ((uniM j k i).length + 1) cap4)).heap[cb]? = some (.cells #[.slice (some ⟨g4, 0, none⟩) ((uniM j k i).length + 1) cap4] 24 (0, 0)) := by
            simp [World.setCell, Array.getElem?_modify, hcb5]
          have hgr5 : Wc.grownBy (W5.setCell ⟨cb, 0, none⟩ (.slice (some ⟨g4, 0, none⟩) ((uniM j k i).length + 1) cap4)) (some cb) :=
            grown_at (gown (grown_trans hGw.out (grown_below HBA2.out)) ⟨hgrow4.os, hgrow4.tape, hgrow4.output, hgrow4.size, hgrow4.block⟩ (fun q hq => by have := (HRO.out q hq).1; omega)) 0 _
          rw [← HRS.out] at hrow5
          have HROW := Lib.hid hrow5
          have HSET := Lib.hid hset5
          have HGR := Lib.hid hgr5
          clear hlow5 hown5 hrow5 hset5 hgr5 hown4 hgrow4 hat4 hlt4 hcb5 s0 sf x0 x1 x2
          go_roundw
          case rel => exact ⟨i + 1, _, by omega, by go_num, HROW, HSET, HGR⟩
          case measure => simp [intOf]; omega
        · obtain rfl : j = i := by omega
          obtain ⟨Aw, cw, hv⟩ : ∃ A c, v = .slice A (uniM j k j).length c := by
            obtain ⟨A, c, h1⟩ := hRow.out.mems.slice
            exact ⟨A, c, h1⟩
          rw [uniM_len] at hv
          subst hv
          have c2 : wr.cell? ⟨cb, 0, none⟩ = some (.slice Aw j cw) := cell_of_row _ _ 0 _ _ (0, 0) hOut.out
          have HGA := Lib.hid (show W1.grownBy Wc (some (g + 1)) from HGC.out)
          have hres0 : Wc.heap[g]? = some (.cells #[.slice none 0 0] 24 (0, 0)) := (HGA.out.block g (by omega) (by simp)).trans K1.out
          have hres : wr.heap[g]? = some (.cells #[.slice none 0 0] 24 (0, 0)) := (hGw.out.block g (by omega) (by simp; omega)).trans hres0
          have z0 : wr.cell? ⟨g, 0, none⟩ = some (.slice none 0 0) := cell_of_row _ _ 0 _ _ (0, 0) hres
          have zf : wr.frozen? ⟨g, 0, none⟩ = false := by simp [World.frozen?, hres]
          have hset : (wr.setCell ⟨g, 0, none⟩ (.slice Aw j cw)).heap[g]? = some (.cells #[.slice Aw j cw] 24 (0, 0)) := by
            simp [World.setCell, Array.getElem?_modify, hres]
          have q0 : (wr.setCell ⟨g, 0, none⟩ (.slice Aw j cw)).cell? ⟨g, 0, none⟩ = some (.slice Aw j cw) := cell_of_row _ _ 0 _ _ (0, 0) hset
          have hms : MemsAt (fun _ => True) 1 (wr.setCell ⟨g, 0, none⟩ (.slice Aw j cw)) (.slice Aw j cw) (uniM j k j) := by
            exact (hRow.out.keep (fun q _ hq => Below.heap_setCell _ _ _ _ (by simp; omega))).mems
          have hbW : Below w.heap.size w (wr.setCell ⟨g, 0, none⟩ (.slice Aw j cw)) := by
            have h1 := HB.out
            rw [← HG.out] at h1
            have h2 := (h1.grown HGA.out h1.size (fun q hq => by obtain rfl := Option.some.inj hq; have := HG.out; omega))
            have h3 := h2.grown hGw.out h2.size (fun q hq => by obtain rfl := Option.some.inj hq; have := HG.out; omega)
            exact bset h3 (p := ⟨g, 0, none⟩) (by have := HG.out; show w.heap.size ≤ g; omega) _
          have HF := Lib.hid (And.intro hms hbW)
          have Q0 := Lib.hid q0
          clear hset q0 hms hbW hres
          go_wp2_with fail
          have q0 := Q0.out
          refine bodyPost_ret (v := .agg #[.slice Aw j cw]) ?_ rfl ⟨_, rfl, HF.out⟩
          simp [results, Try.results4, go_sem, q0]

end Go.Proofs.Ytobdnepmjcbjeaa

namespace Go.Proofs.Ytobdnepmjcbjeaa
set_option linter.unusedVariables false
open Go.RowKit

end Go.Proofs.Ytobdnepmjcbjeaa

namespace Go.Proofs.Ytobdnepmjcbjeaa
set_option linter.unusedVariables false
set_option linter.unusedSimpArgs false
open Go.RowKit

theorem nodes_new (W : World) (ns : List Int) : NodesAt (fun b => W.heap.size ≤ b) (W.alloc (.cells (ns.map (Value.int .i64)).toArray 3)) (.slice (some ⟨W.heap.size, 0, none⟩) ns.length ns.length) ns :=
  ⟨some ⟨W.heap.size, 0, none⟩, ns.length, rfl, fun k hk => ⟨W.heap.size, 0, rfl, Nat.le_refl _, by
    rw [cell_of_row _ _ (0 + k) _ _ (0, 0) (heap_alloc_new _ _), Nat.zero_add, List.getElem?_toArray, List.getElem?_map, List.getD_eq_getElem?_getD, List.getElem?_eq_getElem hk]; rfl⟩⟩

theorem bel43 : belV [3, 5, 6, 9, 10, 12] 4 = 1 := by decide +kernel

theorem tol43 {e : Ending} (h : TolOk (uniM 4 3 4) e) : e = .returned (.tuple #[.int .i64 1, .int .i64 1, .int .i64 0]) := by
  obtain ⟨l1, l2, q, h1, h2, h3, rfl⟩ := h
  rw [split43 h1, halt43 h2 h3, uniM_len, bel43]

def t43 : List Int := zs [3, 5, 6, 9, 10, 12]

set_option maxRecDepth 100000 in
set_option maxHeartbeats 4000000 in
theorem awake16 (w : World) : Calls Try.prog 9 #[] w fun e w' => e = .returned (.bool true) ∧ Below w.heap.size w w' := by
  have HOK := Lib.hid (uni_ok (n := 4) (k := 3) (by omega) (by omega) (by omega))
  have HLE := Lib.hid (show (uniM 4 3 4).length ≤ 7 by rw [uniM_len]; omega)
  have HSP := Lib.hid (fun P v w h => splitting_run P (uniM 4 3 4) v w HLE.out h HOK.out)
  have HHA := Lib.hid (fun P v w h => halting_run P (uniM 4 3 4) v w (by have := HLE.out; omega) h HOK.out)
  have HTO := Lib.hid (fun P v w h => tolerates_run P (uniM 4 3 4) v w HLE.out h HOK.out)
  have HL1 := Lib.hid (fun l h => split43 (l := l) h)
  have HL2 := Lib.hid (fun q l hq h => halt43 (q := q) (l := l) hq h)
  have HL3 := Lib.hid (fun e h => tol43 (e := e) h)
  clear HOK HLE
  go_enter Try.func9, Try.ntmps9
  go_wp2_with fail
  refine (same16_run 4 3 (by omega) (by omega) _).mono ?_
  rintro e w1 ⟨v1, rfl, hm1, hb1⟩
  have HB1 := Lib.hid hb1
  clear hb1
  go_wp2_with fail
  refine (HSP.out _ _ _ hm1.up).mono ?_
  rintro e w2 ⟨v2, l, rfl, ho2, hl2, hb2⟩
  obtain rfl := HL1.out l hl2
  have HB2 := Lib.hid (bstep HB1.out hb2)
  have HN2 := Lib.hid (NodesAt.of_ownZ ho2)
  obtain ⟨A2, c2, hv2⟩ := own_slice ho2
  subst hv2
  clear ho2 hl2 hb2 hm1 HB1 HL1 HSP
  go_wp2_with fail
  refine (same16_run 4 3 (by omega) (by omega) _).mono ?_
  rintro e w3 ⟨v3, rfl, hm3, hb3⟩
  have HB3 := Lib.hid (bstep HB2.out hb3)
  have HN3 := Lib.hid (HN2.out.below hb3)
  clear hb3 HB2 HN2
  go_wp2_with fail
  refine (HHA.out _ _ _ hm3.up).mono ?_
  rintro e w4 ⟨v4, l, q, rfl, ho4, hq4, hl4, hb4⟩
  obtain rfl := HL2.out q l hq4 hl4
  have HB4 := Lib.hid (bstep HB3.out hb4)
  have HN4 := Lib.hid (HN3.out.below hb4)
  have HM4 := Lib.hid (NodesAt.of_ownZ ho4)
  obtain ⟨A4, c4, hv4⟩ := own_slice ho4
  subst hv4
  clear ho4 hl4 hq4 hb4 hm3 HB3 HL2 HHA HN3
  go_wp2_with fail
  refine (same16_run 4 3 (by omega) (by omega) _).mono ?_
  rintro e w5 ⟨v5, rfl, hm5, hb5⟩
  have HB5 := Lib.hid (bstep HB4.out hb5)
  have HN5 := Lib.hid (HN4.out.below hb5)
  have HM5 := Lib.hid (HM4.out.below hb5)
  clear hb5 HB4 HN4 HM4
  go_wp2_with fail
  refine (HTO.out _ _ _ hm5.up).mono ?_
  rintro e w6 ⟨he, hb6⟩
  obtain rfl := HL3.out e he
  have HB6 := Lib.hid (bstep HB5.out hb6)
  have HN6 := Lib.hid (HN5.out.below hb6)
  have HM6 := Lib.hid (HM5.out.below hb6)
  clear hb6 hm5 HB5 HL3 HTO HN5 HM5 he
  go_wp2_with fail
  have hb7 := balloc (bref w6) (.cells #[.int .i64 3, .int .i64 5, .int .i64 6, .int .i64 9, .int .i64 10, .int .i64 12] 3)
  have HB7 := Lib.hid (bstep HB6.out hb7)
  have HP7 := Lib.hid (HM6.out.below hb7)
  have HQ7 := Lib.hid (HN6.out.below hb7)
  refine (ints_run _ _ _ _ [3, 5, 6, 9, 10, 12] _ (by simp) (HN6.out.below hb7) (nodes_new w6 [3, 5, 6, 9, 10, 12])).mono ?_
  rintro e w8 ⟨rfl, hb8⟩
  have HB8 := Lib.hid (bstep HB7.out hb8)
  have HP8 := Lib.hid (HP7.out.below hb8)
  have HQ8 := Lib.hid (HQ7.out.below hb8)
  clear hb7 hb8 HB7 HP7 HB6 HN6 HM6 HQ7
  go_wp2_with fail
  refine (ints_run _ _ _ _ [3, 5, 6, 9, 10, 12] _ (by simp) HP8.out HQ8.out).mono ?_
  rintro e w9 ⟨rfl, hb10⟩
  have HB10 := Lib.hid (bstep HB8.out hb10)
  clear hb10
  go_wp2_with fail
  go_ret
  exact ⟨rfl, HB10.out⟩

end Go.Proofs.Ytobdnepmjcbjeaa

namespace Go.Proofs.Ytobdnepmjcbjeaa
set_option linter.unusedVariables false
set_option linter.unusedSimpArgs false

def cntE (k i : Nat) : Nat := (List.range i).countP (fun s => decide (popc s = k))

theorem cntE_succ (k i : Nat) : cntE k (i + 1) = cntE k i + (decide (popc i = k)).toNat := by
  unfold cntE
  rw [List.range_succ, List.countP_append, List.countP_singleton]
  by_cases h : popc i = k <;> simp [h]

theorem cntE_le (k i : Nat) : cntE k i ≤ i := by unfold cntE; exact Nat.le_trans List.countP_le_length (by simp)

theorem len_of {n r : Nat} {l : List Nat} (ha : Asc l) (h : ∀ t, t ∈ l ↔ t < 2 ^ n ∧ popc t = r) : l.length = cntE r (2 ^ n) := by
  unfold cntE
  rw [List.countP_eq_length_filter]
  refine List.Perm.length_eq ((List.perm_ext_iff_of_nodup (asc_nodup ha) (List.nodup_iff_pairwise_ne.2 ((List.nodup_iff_pairwise_ne.1 List.nodup_range).filter _))).2 (fun t => ?_))
  rw [h t, List.mem_filter, List.mem_range, decide_eq_true_iff]

theorem some_of {n r : Nat} (hn : n ≤ 10) (hr : r ≤ n) : ∃ t, t < 2 ^ n ∧ popc t = r := by
  have h10 : 2 ^ n ≤ 2 ^ 10 := Nat.pow_le_pow_right (by omega) hn
  have h1 : 1 ≤ 2 ^ n := Nat.one_le_two_pow
  obtain ⟨a, h2, h3⟩ := sub_size (n - r) (2 ^ n - 1) r (by omega) (by rw [popc_full n hn]; omega)
  exact ⟨a, sub_lt h2 (by omega), h3⟩

theorem bel_of {n r : Nat} {l : List Nat} (hn : n ≤ 10) (hr : r ≤ n) (h : ∀ t, t ∈ l ↔ t < 2 ^ n ∧ popc t = r) : belV l n = (r : Int) - 1 := by
  obtain ⟨t, ht⟩ := some_of hn hr
  rcases l with _ | ⟨a, s⟩
  · have := (h t).2 ht
    cases this
  · show (popc a : Int) - 1 = (r : Int) - 1
    rw [((h a).1 (by simp)).2]

theorem tol_uni {n k : Nat} {e : Ending} (hn : n ≤ 10) (hk : 1 ≤ k) (hkn : k ≤ n) (h : TolOk (uniM n k n) e) : e = .returned (.tuple #[.int .i64 (if k < n then ((2 * k - n : Nat) : Int) - 1 else (n : Int)), .int .i64 ((n : Int) - (k : Int)), .int .i64 0]) := by
  obtain ⟨l1, l2, q, h1, h2, h3, rfl⟩ := h
  have hm := split_mem hn hk hkn h1
  rw [uniM_len, bel_of hn (r := n - k + 1) (by omega) (halt_mem hn hk hkn h2 h3)]
  have e2 : ((n - k + 1 : Nat) : Int) - 1 = (n : Int) - (k : Int) := by omega
  rw [e2]
  by_cases hlt : k < n
  · rw [if_pos hlt, bel_of hn (r := 2 * k - n) (by omega) (fun t => by rw [hm t]; simp [hlt])]
  · rw [if_neg hlt]
    have : l1 = [] := by
      rcases l1 with _ | ⟨a, s⟩
      · rfl
      · exact absurd ((hm a).1 (by simp)).2.1 hlt
    rw [this]; rfl

/-- How many sets split. -/
def fS (n k i : Nat) : Nat := if k < n then cntE (2 * k - n) i else 0

theorem fS_succ (n k i : Nat) : fS n k (i + 1) = fS n k i + (decide (popc i = 2 * k - n) && decide (k < n)).toNat := by
  unfold fS
  by_cases h : k < n
  · rw [if_pos h, if_pos h, cntE_succ, decide_eq_true h, Bool.and_true]
  · rw [if_neg h, if_neg h, decide_eq_false h, Bool.and_false]; rfl

theorem fS_le (n k i : Nat) : fS n k i ≤ i := by
  unfold fS
  split
  · exact cntE_le _ _
  · exact Nat.zero_le _

theorem split_len {n k : Nat} (hn : n ≤ 10) (hk : 1 ≤ k) (hkn : k ≤ n) {l : List Nat} (h : IsLeast (pz (zs (allS (uniM n k n)))) l) : l.length = fS n k (2 ^ n) := by
  have hm := split_mem hn hk hkn h
  unfold fS
  by_cases hlt : k < n
  · rw [if_pos hlt]
    exact len_of h.1 (fun t => by rw [hm t]; simp [hlt])
  · rw [if_neg hlt]
    rcases l with _ | ⟨a, s⟩
    · rfl
    · exact absurd ((hm a).1 (by simp)).2.1 hlt

theorem halt_len {n k : Nat} (hn : n ≤ 10) (hk : 1 ≤ k) (hkn : k ≤ n) {q l : List Nat} (hq : IsLeast (pz (zs (allQ 2 (uniM n k n)))) q) (h : IsLeast (meetB (uniM n k n).length q) l) : l.length = cntE (n - k + 1) (2 ^ n) :=
  len_of h.1 (halt_mem hn hk hkn hq h)

end Go.Proofs.Ytobdnepmjcbjeaa
