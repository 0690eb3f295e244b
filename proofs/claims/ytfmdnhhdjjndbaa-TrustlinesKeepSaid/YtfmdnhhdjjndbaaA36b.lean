/- Package accounts: change, Begin, Give, Take, Total. -/
import Derived.Test.YtfmdnhhdjjndbaaA36
import Derived.Test.YtfmdnhhdjjndbaaR35b
import Derived.Test.YtfmdnhhdjjndbaaHeldF
namespace Go.Proofs.Ytfmdnhhdjjndbaa
set_option linter.unusedVariables false
set_option linter.unusedSimpArgs false
open Go.RowKit

theorem RowAt.set {α : Type} {n : Nat} {enc : α → List Value} {P : Nat → Prop} {W w' : World} {L : List α} {g o m c F : Nat} {a' : α} (hn : ∀ x, (enc x).length = n) (h : RowAt n enc P W (.slice (some ⟨g, o, none⟩) m c) L) (hz : W.heap.size ≤ w'.heap.size)
    (hout : ∀ q, (q < o + F * n ∨ o + F * n + n ≤ q) → w'.cell? ⟨g, q, none⟩ = W.cell? ⟨g, q, none⟩) (hin : ∀ j u, (enc a')[j]? = some u → w'.cell? ⟨g, o + F * n + j, none⟩ = some u) :
    RowAt n enc P w' (.slice (some ⟨g, o, none⟩) m c) (L.set F a') := by
  obtain ⟨A, c', h1, hc, hm, h2⟩ := h
  cases h1
  refine ⟨_, _, by rw [List.length_set], by rw [List.length_set]; exact hc, hm, fun k x hx => ?_⟩
  have hk : k < L.length := by
    have := (List.getElem?_eq_some_iff.1 hx).1
    rwa [List.length_set] at this
  obtain ⟨b, off, e0, e1, e2, e3⟩ := h2 k _ (List.getElem?_eq_getElem hk)
  simp only [Option.some.injEq, Addr.mk.injEq] at e0
  obtain ⟨rfl, rfl, _⟩ := e0
  refine ⟨_, _, rfl, e1, Nat.lt_of_lt_of_le e2 hz, fun j u hu => ?_⟩
  by_cases e : F = k
  · subst e
    rw [List.getElem?_set_self hk] at hx
    cases hx
    exact hin j u hu
  · rw [List.getElem?_set_ne e, List.getElem?_eq_getElem hk] at hx
    cases hx
    have hj : j < n := by
      rw [← hn L[k]]
      exact (List.getElem?_eq_some_iff.1 hu).1
    rw [hout]
    · exact e3 j u hu
    · rcases Nat.lt_or_gt_of_ne e with h | h
      · right
        have : (F + 1) * n ≤ k * n := Nat.mul_le_mul_right n h
        rw [Nat.succ_mul] at this
        omega
      · left
        have : (k + 1) * n ≤ F * n := Nat.mul_le_mul_right n h
        rw [Nat.succ_mul] at this
        omega

theorem AccsOk.set {L : List Acc} (h : AccsOk L) {F : Nat} {a a' : Acc} (ha : L[F]? = some a) (hg : AccG a') (hi : a'.id = a.id) : AccsOk (L.set F a') := by
  have hF : F < L.length := (List.getElem?_eq_some_iff.1 ha).1
  have hid : ∀ (k : Nat) (x : Acc), (L.set F a')[k]? = some x → ∃ y, L[k]? = some y ∧ y.id = x.id ∧ AccG x := by
    intro k x hx
    have hk : k < L.length := by
      have := (List.getElem?_eq_some_iff.1 hx).1
      rwa [List.length_set] at this
    by_cases e : F = k
    · subst e
      rw [List.getElem?_set_self hk] at hx
      cases hx
      exact ⟨a, ha, hi.symm, hg⟩
    · rw [List.getElem?_set_ne e] at hx
      exact ⟨x, hx, rfl, h.each k x hx⟩
  refine ⟨by rw [List.length_set]; exact h.len, fun k x hx => (hid k x hx).choose_spec.2.2, fun k x y hx hy => ?_⟩
  obtain ⟨x', hx', ex, _⟩ := hid k x hx
  obtain ⟨y', hy', ey, _⟩ := hid (k + 1) y hy
  rw [← ex, ← ey]
  exact h.asc k x' y' hx' hy'

theorem findA_set {L : List Acc} {F : Nat} {a a' : Acc} (ha : L[F]? = some a) (hi : a'.id = a.id) (i : Int) : findA i (L.set F a') = findA i L := by
  have hF : F < L.length := (List.getElem?_eq_some_iff.1 ha).1
  have hid : ∀ (k : Nat), (L.set F a')[k]?.map (·.id) = L[k]?.map (·.id) := by
    intro k
    by_cases e : F = k
    · subst e
      rw [List.getElem?_set_self hF, ha]
      simp [hi]
    · rw [List.getElem?_set_ne e]
  have hm : (L.set F a').map (·.id) = L.map (·.id) := by
    apply List.ext_getElem?
    intro k
    rw [List.getElem?_map, List.getElem?_map, hid k]
  have key : ∀ M : List Acc, findA i M = (M.map (·.id)).findIdx (fun x => decide (x = i)) := by
    intro M
    unfold findA
    rw [List.findIdx_map]
    rfl
  rw [key, key, hm]

/-- What a change of one account does: an error er, or the account up. -/
def ClO (G : Nat) (caps : Array Value) (er : Acc → Int) (up : Acc → Acc) (a : Acc) (w0 : World) : Prop :=
  ∀ (b o : Nat) (W : World), w0.heap.size ≤ b → b < W.heap.size → Below w0.heap.size w0 W → Cs [(⟨b, o, none⟩, .int .i64 a.id), (⟨b, o + 1, none⟩, .int .i64 a.bal), (⟨b, o + 2, none⟩, .int .i64 a.seq)] W → (∀ q, W.frozen? ⟨b, q, none⟩ = false) →
    Calls Try.prog G (#[.pointer (some ⟨b, o, none⟩)] ++ caps) W fun e w' => e = .returned (.int .i64 (er a)) ∧ W.grownBy w' (some b) ∧ (∀ q, (q < o ∨ o + 3 ≤ q) → w'.cell? ⟨b, q, none⟩ = W.cell? ⟨b, q, none⟩) ∧
      (er a = 0 → Cs [(⟨b, o, none⟩, .int .i64 (up a).id), (⟨b, o + 1, none⟩, .int .i64 (up a).bal), (⟨b, o + 2, none⟩, .int .i64 (up a).seq)] w')

theorem nonfrozen_own {w : World} {B : Nat} {e : TypeId} {n m : Nat} {g c : Nat} {xs : List Value} (h : w.ownsRow B e n (.slice (some ⟨g, 0, none⟩) m c) m xs) (hm : 0 < m) : ∀ q, w.frozen? ⟨g, q, none⟩ = false := by
  rcases h.2 with ⟨hv, h0⟩ | ⟨g', cap, cur, hv, hb, hg, _⟩
  · omega
  · cases hv
    intro q
    simp [World.frozen?, hg]

/-- What change leaves. -/
structure ChgOk (w w' : World) (E : Int) (v' : Value) (L' : List Acc) : Prop where
  bad : E ≠ 0 → v' = .slice none 0 0
  good : E = 0 → AccAt (fun b => w.heap.size ≤ b) w' v' L'
  bel : Below w.heap.size w w'

set_option maxRecDepth 100000 in
set_option maxHeartbeats 4000000 in
theorem change_run (P : Nat → Prop) (G : Nat) (caps : Array Value) (er : Acc → Int) (up : Acc → Acc) (L : List Acc) (i : Int) (a : Acc) (v : Value) (w : World) (hok : AccsOk L) (ha : L[findA i L]? = some a) (h : AccAt P w v L) (eg : ∀ args w, (callFunc G args).run Try.prog w = .ok (.enter G args) w)
    (hcl : ClO G caps er up a w) :
    Calls Try.prog 39 #[v, .int .i64 i, .func (.func G) #[] caps] w fun e w' => ∃ v', e = .returned (.tuple #[v', .int .i64 (er a)]) ∧ ChgOk w w' (er a) v' (L.set (findA i L) (up a)) := by
  obtain ⟨A, c, rfl, hc, hm⟩ := h.slice
  have hlen := hok.len
  have HL0 := Lib.hid h
  have HCK := Lib.hid (fun W (hW : Below w.heap.size w W) => acheck_run P L _ W hok (h.below hW))
  have HIX := Lib.hid (fun W (hW : Below w.heap.size w W) => index_run P L i _ W (by omega) (h.below hW))
  have HFL := Lib.hid (fun W (hW : Below w.heap.size w W) => flatA_run P _ L W (by omega) (h.below hW))
  have HCL := Lib.hid hcl
  have hFl : findA i L < L.length := (List.getElem?_eq_some_iff.1 ha).1
  have HA := Lib.hid ha
  rw [show atA i L L.length = ((findA i L : Nat) : Int) from atA_yes hFl] at HIX
  obtain ⟨F, hF⟩ : ∃ F, findA i L = F := ⟨_, rfl⟩
  rw [hF] at HIX HA hFl ⊢
  obtain ⟨n, hn⟩ : ∃ n, L.length = n := ⟨_, rfl⟩
  have HN := Lib.hid hn
  rw [hn] at HCK HIX HFL hFl hc ⊢
  have hf0 : (0 : Int) ≤ (F : Int) := by omega
  have hf1 : (F : Int) < (n : Int) := by omega
  obtain ⟨E, hE⟩ : ∃ E, er a = E := ⟨_, rfl⟩
  have HE := Lib.hid hE
  rw [hE]
  clear h hok hcl ha hF hn hE hlen
  go_enter Try.func39, Try.ntmps39
  go_wp2_with fail
  refine (HCK.out _ (bref _)).mono ?_
  rintro e w1 ⟨rfl, hb1⟩
  have HB1 := Lib.hid hb1
  clear hb1
  go_wp2_with fail
  refine (HIX.out _ HB1.out).mono ?_
  rintro e w2 ⟨rfl, hb2⟩
  have HB2 := Lib.hid (bstep HB1.out hb2)
  clear hb2
  go_wp2_with fail
  refine (HFL.out _ HB2.out).mono ?_
  rintro e w3 ⟨vr, rfl, hown, hb3⟩
  obtain ⟨g, cap, rfl, hbase, hgl⟩ := hown.form (by omega)
  have HB3 := Lib.hid (bstep HB2.out hb3)
  have HR3 := Lib.hid (show AccAt (fun b => w.heap.size ≤ b) w3 (.slice (some ⟨g, 0, none⟩) n cap) L from by
    have h1 := RowAt.of_own (P := fun b => w.heap.size ≤ b) (L := L) encA_len (by rw [HN.out]; exact hown) (by rw [HN.out]; unfold maxLen at hm ⊢; omega) (fun b hb _ => by have := HB2.out.size; omega)
    exact h1)
  have HFZ := Lib.hid (nonfrozen_own hown (by omega))
  have hgw : w.heap.size ≤ g := by have := HB2.out.size; omega
  clear hown hb3
  have HCS := Lib.hid (show Cs [(⟨g, F * 3, none⟩, .int .i64 a.id), (⟨g, F * 3 + 1, none⟩, .int .i64 a.bal), (⟨g, F * 3 + 2, none⟩, .int .i64 a.seq)] w3 from by
    obtain ⟨b, off, e0, _, _, c0, c1, c2⟩ := accBox HR3.out HA.out
    simp only [Option.some.injEq, Addr.mk.injEq] at e0
    obtain ⟨rfl, rfl, _⟩ := e0
    rw [Nat.zero_add] at c0 c1 c2
    exact ⟨c0, c1, c2, trivial⟩)
  go_wp2_with fail
  refine (HCL.out g (F * 3) w3 hgw hgl HB3.out HCS.out HFZ.out).mono ?_
  rintro e w4 ⟨rfl, hg4, hout, hin⟩
  have HB4 := Lib.hid (Below.grown HB3.out hg4 HB3.out.size (fun j hj => by cases hj; exact hgw))
  have HR4 := Lib.hid (show E = 0 → AccAt (fun b => w.heap.size ≤ b) w4 (.slice (some ⟨g, 0, none⟩) n cap) (L.set F (up a)) from fun h0 => by
    obtain ⟨c0, c1, c2, _⟩ := hin (HE.out.trans h0)
    refine RowAt.set encA_len HR3.out hg4.size (fun q hq => hout q (by omega)) (fun j u hu => ?_)
    rw [Nat.zero_add]
    match j, hu with
    | 0, hu => cases hu; exact c0
    | 1, hu => cases hu; exact c1
    | 2, hu => cases hu; exact c2)
  rw [HE.out]
  clear hg4 hout hin
  rcases (show E = 0 ∨ E ≠ 0 by omega) with h0 | h0
  · have HQ := Lib.hid (show ChgOk w w4 E (.slice (some ⟨g, 0, none⟩) n cap) (L.set F (up a)) from ⟨fun h => absurd h0 h, HR4.out, HB4.out⟩)
    subst h0
    go_wp2_with fail
    go_ret2
    exact ⟨_, rfl, HQ.out⟩
  · have q0 : (E != 0) = true := bne_iff_ne.2 h0
    have HQ := Lib.hid (show ChgOk w w4 E (.slice none 0 0) (L.set F (up a)) from ⟨fun _ => rfl, fun h => absurd h h0, HB4.out⟩)
    clear h0
    go_wp2_with fail
    go_ret2
    exact ⟨_, rfl, HQ.out⟩

/-- Behind Give and Take: the balance is stored, an error handed back. -/
theorem elem_post {W WK : World} {b o : Nat} {v : Value} (hb : Below W.heap.size W WK) (hbl : b < W.heap.size) (hf : ∀ q, W.frozen? ⟨b, q, none⟩ = false) :
    W.grownBy (WK.setCell ⟨b, o + 1, none⟩ v) (some b) ∧ ∀ q, (q < o ∨ o + 3 ≤ q) → (WK.setCell ⟨b, o + 1, none⟩ v).cell? ⟨b, q, none⟩ = W.cell? ⟨b, q, none⟩ := by
  refine ⟨⟨hb.os, hb.tape, hb.output, by simpa [World.setCell] using hb.size, fun k hk hn => (Below.heap_setCell _ _ _ _ (fun e => hn (congrArg some e))).trans (hb.block k hk)⟩, fun q hq => ?_⟩
  rw [World.cell?_setCell_other _ _ _ _ (fun e => by first | (simp at e; omega) | simp at e)]
  exact hb.cell (p := ⟨b, q, none⟩) hbl

def giveE (n : Int) (a : Acc) : Int := if okI a.bal && okI n && okI (a.bal + n) then 0 else 65

def giveU (n : Int) (a : Acc) : Acc := ⟨a.id, a.bal + n, a.seq⟩

set_option maxRecDepth 100000 in
set_option maxHeartbeats 4000000 in
theorem give1_run (n : Int) (tb : Nat) (a : Acc) (w0 : World) (hg : AccG a) (hn0 : 0 ≤ n) (hn1 : n ≤ 1000000000000) (htb : w0.cell? ⟨tb, 0, none⟩ = some (.int .i64 n)) :
    ClO 49 #[.pointer (some ⟨tb, 0, none⟩)] (giveE n) (giveU n) a w0 := by
  intro b o w hbw hbl hB hcs hfz
  obtain ⟨c0, c1, c2, _⟩ := id hcs
  have htl : tb < w0.heap.size := cell_lt htb
  have ht : w.cell? ⟨tb, 0, none⟩ = some (.int .i64 n) := (hB.cell (p := ⟨tb, 0, none⟩) htl).trans htb
  have hw : wrap64 (a.bal + n) = a.bal + n := IntWalk.wrap64_in _ (by have := hg.b0; have := hg.b1; omega)
  have HADD := Lib.hid (fun W => add_any a.bal n W)
  rw [hw] at HADD
  have hfz1 := hfz (o + 1)
  have HFZ := Lib.hid hfz
  have HC := Lib.hid hcs
  obtain ⟨x, E, hxE, hE0, hE⟩ : ∃ x E : Int, sumV (a.bal + n) a.bal n = .tuple #[.int .i64 x, .int .i64 E] ∧ giveE n a = E ∧ (E = 0 → x = a.bal + n) := by
    unfold sumV giveE
    cases h : (okI a.bal && okI n && okI (a.bal + n))
    · exact ⟨0, 65, rfl, rfl, fun h => by cases h⟩
    · exact ⟨_, 0, rfl, rfl, fun _ => rfl⟩
  have HV := Lib.hid hxE
  have HE := Lib.hid (And.intro hE0 hE)
  have hS := Lib.hid (show Cs [(⟨b, o + 1, none⟩, .int .i64 a.bal), (⟨tb, 0, none⟩, .int .i64 n)] w.drew ∧ Below w.heap.size w w.drew from ⟨⟨c1, ht, trivial⟩, bdrew (bref _)⟩)
  clear c0 c1 c2 ht hw hxE hE hE0 hfz hcs
  show Calls Try.prog 49 #[.pointer (some ⟨b, o, none⟩), .pointer (some ⟨tb, 0, none⟩)] w _
  go_enter Try.func49, Try.ntmps49
  go_upto_region 1 with fail
  refine region_f (fun W => Cs [(⟨b, o + 1, none⟩, .int .i64 a.bal), (⟨tb, 0, none⟩, .int .i64 n)] W ∧ Below w.heap.size w W) [12] (by kernel_rfl) ?_
  have hSK := hS.out
  refine take_y (some 5) (i := 0) (v := ?_) rfl rfl (by kernel_rfl) (by kernel_rfl) (by kernel_rfl) (fun _ _ _ h => h) (Or.inl ⟨by rfl, ?_⟩) ?_
  rotate_left
  · intro w _; go_simp; (try with_reducible rfl)
  try simp only [Act.put, List.setIfInBounds_toArray, List.set_cons_zero, List.set_cons_succ]
  refine take_y (some 6) (i := 1) (v := ?_) rfl rfl (by kernel_rfl) (by kernel_rfl) (by kernel_rfl) (fun _ _ _ h => h) (Or.inl ⟨by rfl, ?_⟩) ?_
  rotate_left
  · intro w _; go_simp; (try with_reducible rfl)
  try simp only [Act.put, List.setIfInBounds_toArray, List.set_cons_zero, List.set_cons_succ]
  refine take_y (some 7) (i := 2) (v := ?_) rfl rfl (by kernel_rfl) (by kernel_rfl) (by kernel_rfl) (fun _ _ _ h => h) (Or.inl ⟨by rfl, ?_⟩) ?_
  rotate_left
  · intro w _; go_simp; (try with_reducible rfl)
  try simp only [Act.put, List.setIfInBounds_toArray, List.set_cons_zero, List.set_cons_succ]
  refine take_y (some 8) (i := 3) (v := ?_) rfl rfl (by kernel_rfl) (by kernel_rfl) (by kernel_rfl) (fun _ _ _ h => h) (Or.inl ⟨by rfl, ?_⟩) ?_
  rotate_left
  · intro w _; go_simp; (try with_reducible rfl)
  try simp only [Act.put, List.setIfInBounds_toArray, List.set_cons_zero, List.set_cons_succ]
  refine take_f (some 9) [6, 7, 8, 9, 10, 11, 12, 13] (i := 4) (v := ?_) rfl rfl (by kernel_rfl) (by kernel_rfl) (by kernel_rfl) (by kernel_rfl) (fun _ _ _ h => h) (Or.inl ⟨by rfl, ?_⟩) (by assumption) ?_
  rotate_left
  · intro w hSw; (dsimp only [Cs] at hSw); go_simp; (try with_reducible rfl)
  try simp only [Act.put, List.setIfInBounds_toArray, List.set_cons_zero, List.set_cons_succ]
  refine take_f (some 10) [6, 7, 8, 9, 10, 11, 12, 13] (i := 5) (v := ?_) rfl rfl (by kernel_rfl) (by kernel_rfl) (by kernel_rfl) (by kernel_rfl) (fun _ _ _ h => h) (Or.inl ⟨by rfl, ?_⟩) (by assumption) ?_
  rotate_left
  · intro w hSw; (dsimp only [Cs] at hSw); go_simp; (try with_reducible rfl)
  try simp only [Act.put, List.setIfInBounds_toArray, List.set_cons_zero, List.set_cons_succ]
  refine one_f (i := 6) (by kernel_rfl) rfl (fun K hK => ?_)
  go_simp
  go_at_call 50; refine (HADD.out _).mono ?_; rintro e WK ⟨rfl, hbK⟩; rw [HV.out]
  go_wp2_with fail
  have hSK2 := (show Cs _ _ ∧ Below _ _ _ from ⟨hSK.1.below hbK, bstep hSK.2 hbK⟩)
  refine hK.out _ _ (Or.inr (fun _ => hSK2)) ?_
  clear hK K hSK
  try simp only [Act.put, List.setIfInBounds_toArray, List.set_cons_zero, List.set_cons_succ]
  refine take_y (some 4) (i := 7) (v := ?_) rfl rfl (by kernel_rfl) (by kernel_rfl) (by kernel_rfl) (fun _ _ _ h => h) (Or.inl ⟨by rfl, ?_⟩) ?_
  rotate_left
  · intro w _; go_simp; (try with_reducible rfl)
  try simp only [Act.put, List.setIfInBounds_toArray, List.set_cons_zero, List.set_cons_succ]
  refine take_y (some 12) (i := 8) (v := ?_) rfl rfl (by kernel_rfl) (by kernel_rfl) (by kernel_rfl) (fun _ _ _ h => h) (Or.inl ⟨by rfl, ?_⟩) ?_
  rotate_left
  · intro w _; go_simp; (try with_reducible rfl)
  try simp only [Act.put, List.setIfInBounds_toArray, List.set_cons_zero, List.set_cons_succ]
  refine take_y (some 13) (i := 9) (v := ?_) rfl rfl (by kernel_rfl) (by kernel_rfl) (by kernel_rfl) (fun _ _ _ h => h) (Or.inl ⟨by rfl, ?_⟩) ?_
  rotate_left
  · intro w _; go_simp; (try with_reducible rfl)
  try simp only [Act.put, List.setIfInBounds_toArray, List.set_cons_zero, List.set_cons_succ]
  refine take_y (some 14) (i := 10) (v := ?_) rfl rfl (by kernel_rfl) (by kernel_rfl) (by kernel_rfl) (fun _ _ _ h => h) (Or.inl ⟨by rfl, ?_⟩) ?_
  rotate_left
  · intro w _; go_simp; (try with_reducible rfl)
  try simp only [Act.put, List.setIfInBounds_toArray, List.set_cons_zero, List.set_cons_succ]
  refine take_y (some 15) (i := 11) (v := ?_) rfl rfl (by kernel_rfl) (by kernel_rfl) (by kernel_rfl) (fun _ _ _ h => h) (Or.inl ⟨by rfl, ?_⟩) ?_
  rotate_left
  · intro w _; go_simp; (try with_reducible rfl)
  try simp only [Act.put, List.setIfInBounds_toArray, List.set_cons_zero, List.set_cons_succ]
  refine one_f (i := 12) (by kernel_rfl) rfl (fun K hK => ?_)
  obtain ⟨⟨z1, z2, _⟩, z3⟩ := id hSK2
  have hbW : Below w.heap.size w WK := bstep (bdrew (bref w)) hbK
  have zf := (hbW.frozen (p := ⟨b, o + 1, none⟩) hbl).trans hfz1
  go_simp
  refine hK.out _ _ (Or.inl (by kernel_rfl)) ?_
  clear hK K
  try simp only [Act.put, List.setIfInBounds_toArray, List.set_cons_zero, List.set_cons_succ]
  refine take_y (some 3) (i := 13) (v := ?_) rfl rfl (by kernel_rfl) (by kernel_rfl) (by kernel_rfl) (fun _ _ _ h => h) (Or.inl ⟨by rfl, ?_⟩) ?_
  rotate_left
  · intro w _; go_simp; (try with_reducible rfl)
  try simp only [Act.put, List.setIfInBounds_toArray, List.set_cons_zero, List.set_cons_succ]
  refine done_f (by kernel_rfl) ?_ _
  have HPOST := Lib.hid (elem_post (o := o) (v := .int .i64 x) hbW hbl HFZ.out)
  have HZ1 := Lib.hid z1
  have HIN := Lib.hid (show E = 0 → Cs [(⟨b, o, none⟩, .int .i64 a.id), (⟨b, o + 1, none⟩, .int .i64 (a.bal + n)), (⟨b, o + 2, none⟩, .int .i64 a.seq)] (WK.setCell ⟨b, o + 1, none⟩ (.int .i64 x)) from fun h0 => by
    obtain ⟨k0, k1, k2, _⟩ := HC.out.below hbW
    rw [HE.out.2 h0]
    exact ⟨(World.cell?_setCell_other _ _ _ _ (fun e => by simp at e)).trans k0, World.cell?_setCell_same _ _ _ (by rw [k1]), (World.cell?_setCell_other _ _ _ _ (fun e => by simp at e)).trans k2, trivial⟩)
  clear z1 z2 z3 zf hbK hbW
  go_wp2_with fail
  go_ret
  exact ⟨by rw [HE.out.1]; rfl, HPOST.out.1, HPOST.out.2, fun h => HIN.out (HE.out.1.symm.trans h)⟩

def takeE (n : Int) (a : Acc) : Int := if a.bal < n then 66 else 0

def takeU (n : Int) (a : Acc) : Acc := ⟨a.id, a.bal - n, a.seq⟩

set_option maxRecDepth 100000 in
set_option maxHeartbeats 4000000 in
theorem take1_run (n : Int) (tb : Nat) (a : Acc) (w0 : World) (hg : AccG a) (hn0 : 0 ≤ n) (hn1 : n ≤ 1000000000000) (htb : w0.cell? ⟨tb, 0, none⟩ = some (.int .i64 n)) :
    ClO 47 #[.pointer (some ⟨tb, 0, none⟩)] (takeE n) (takeU n) a w0 := by
  intro b o w hbw hbl hB hcs hfz
  obtain ⟨c0, c1, c2, _⟩ := id hcs
  have htl : tb < w0.heap.size := cell_lt htb
  have ht : w.cell? ⟨tb, 0, none⟩ = some (.int .i64 n) := (hB.cell (p := ⟨tb, 0, none⟩) htl).trans htb
  have HVN := Lib.hid (okI_yes hn0 hn1)
  have hS0 := Lib.hid (show Cs [(⟨b, o + 1, none⟩, .int .i64 a.bal), (⟨tb, 0, none⟩, .int .i64 n)] w.drew from ⟨c1, ht, trivial⟩)
  rcases (show a.bal < n ∨ ¬ a.bal < n by omega) with hlt | hlt
  · have HE := Lib.hid (show takeE n a = 66 from if_pos hlt)
    have q0 : decide (a.bal < n) = true := decide_eq_true hlt
    clear hlt c0 c1 c2 ht hcs
    show Calls Try.prog 47 #[.pointer (some ⟨b, o, none⟩), .pointer (some ⟨tb, 0, none⟩)] w _
    go_enter Try.func47, Try.ntmps47
    go_upto_region 1 with fail
    refine wp_region_held_drew (S := (fun W => Cs [(⟨b, o + 1, none⟩, .int .i64 a.bal), (⟨tb, 0, none⟩, .int .i64 n)] W)) (by kernel_rfl) hS0.out (fun hSK => ?_)
    refine take_d (some 4) (i := 0) (v := ?_) rfl rfl (by kernel_rfl) (by kernel_rfl) (by kernel_rfl) (fun _ _ _ h => h) (Or.inl ⟨by rfl, ?_⟩) (by assumption) ?_
    rotate_left
    · intro w hSw; (dsimp only [Cs] at hSw); go_simp; (try with_reducible rfl)
    try simp only [Act.put, List.setIfInBounds_toArray, List.set_cons_zero, List.set_cons_succ]
    refine wpAnyH_ready (rs := [1]) (by kernel_rfl) (by simp) ?_
    refine AllReadyH.cons rfl (fun K hK => ?_) AllReadyH.nil
    go_simp
    go_at_call 42; refine (valid_any _ _).mono ?_; rintro e w2 ⟨rfl, rfl⟩; rw [HVN.out]
    go_wp2_with fail
    refine hK.out _ _ ?_ (fun hHeld => ?_)
    · exact hSK
    clear hSK
    have hSK := hHeld
    clear hHeld
    clear hK K
    try simp only [Act.put, List.setIfInBounds_toArray, List.set_cons_zero, List.set_cons_succ]
    refine take_d (some 6) (i := 2) (v := ?_) rfl rfl (by kernel_rfl) (by kernel_rfl) (by kernel_rfl) (fun _ _ _ h => h) (Or.inl ⟨by rfl, ?_⟩) (by assumption) ?_
    rotate_left
    · intro w hSw; (dsimp only [Cs] at hSw); go_simp; (try with_reducible rfl)
    try simp only [Act.put, List.setIfInBounds_toArray, List.set_cons_zero, List.set_cons_succ]
    refine take_d (some 7) (i := 3) (v := ?_) rfl rfl (by kernel_rfl) (by kernel_rfl) (by kernel_rfl) (fun _ _ _ h => h) (Or.inl ⟨by rfl, ?_⟩) (by assumption) ?_
    rotate_left
    · intro w hSw; (dsimp only [Cs] at hSw); go_simp; (try with_reducible rfl)
    try simp only [Act.put, List.setIfInBounds_toArray, List.set_cons_zero, List.set_cons_succ]
    refine take_d (some 8) (i := 4) (v := ?_) rfl rfl (by kernel_rfl) (by kernel_rfl) (by kernel_rfl) (fun _ _ _ h => h) (Or.inl ⟨by rfl, ?_⟩) (by assumption) ?_
    rotate_left
    · intro w hSw; (dsimp only [Cs] at hSw); go_simp; (try with_reducible rfl)
    try simp only [Act.put, List.setIfInBounds_toArray, List.set_cons_zero, List.set_cons_succ]
    refine take_d (some 9) (i := 5) (v := ?_) rfl rfl (by kernel_rfl) (by kernel_rfl) (by kernel_rfl) (fun _ _ _ h => h) (Or.inl ⟨by rfl, ?_⟩) (by assumption) ?_
    rotate_left
    · intro w hSw; (dsimp only [Cs] at hSw); go_simp; (try with_reducible rfl)
    try simp only [Act.put, List.setIfInBounds_toArray, List.set_cons_zero, List.set_cons_succ]
    refine take_d (some 10) (i := 6) (v := ?_) rfl rfl (by kernel_rfl) (by kernel_rfl) (by kernel_rfl) (fun _ _ _ h => h) (Or.inl ⟨by rfl, ?_⟩) (by assumption) ?_
    rotate_left
    · intro w hSw; (dsimp only [Cs] at hSw); go_simp; (try with_reducible rfl)
    try simp only [Act.put, List.setIfInBounds_toArray, List.set_cons_zero, List.set_cons_succ]
    refine take_d (some 11) (i := 7) (v := ?_) rfl rfl (by kernel_rfl) (by kernel_rfl) (by kernel_rfl) (fun _ _ _ h => h) (Or.inl ⟨by rfl, ?_⟩) (by assumption) ?_
    rotate_left
    · intro w hSw; (dsimp only [Cs] at hSw); go_simp; (try with_reducible rfl)
    try simp only [Act.put, List.setIfInBounds_toArray, List.set_cons_zero, List.set_cons_succ]
    refine take_d (some 12) (i := 8) (v := ?_) rfl rfl (by kernel_rfl) (by kernel_rfl) (by kernel_rfl) (fun _ _ _ h => h) (Or.inl ⟨by rfl, ?_⟩) (by assumption) ?_
    rotate_left
    · intro w hSw; (dsimp only [Cs] at hSw); go_simp; (try with_reducible rfl)
    try simp only [Act.put, List.setIfInBounds_toArray, List.set_cons_zero, List.set_cons_succ]
    refine take_d (some 13) (i := 9) (v := ?_) rfl rfl (by kernel_rfl) (by kernel_rfl) (by kernel_rfl) (fun _ _ _ h => h) (Or.inl ⟨by rfl, ?_⟩) (by assumption) ?_
    rotate_left
    · intro w hSw; (dsimp only [Cs] at hSw); go_simp; (try with_reducible rfl)
    try simp only [Act.put, List.setIfInBounds_toArray, List.set_cons_zero, List.set_cons_succ]
    refine wpAnyH_done (by kernel_rfl) ?_ _
    clear hSK hS0
    go_wp2_with fail
    go_ret
    exact ⟨by rw [HE.out]; rfl, grown_below (bdrew (bref _)), fun q hq => rfl, fun h => by rw [HE.out] at h; cases h⟩
  · have HE0 := Lib.hid (show takeE n a = 0 from if_neg hlt)
    have q0 : decide (a.bal < n) = false := decide_eq_false hlt
    have hw : wrap64 (a.bal - n) = a.bal - n := IntWalk.wrap64_in _ (by have := hg.b0; have := hg.b1; omega)
    have HADD := Lib.hid (fun W => sub_any a.bal n W)
    rw [hw] at HADD
    have hfz1 := hfz (o + 1)
    have HFZ := Lib.hid hfz
    have HC := Lib.hid hcs
    obtain ⟨x, E, hxE, hE0, hE⟩ : ∃ x E : Int, sumV (a.bal - n) a.bal n = .tuple #[.int .i64 x, .int .i64 E] ∧ takeE n a = E ∧ (E = 0 → x = a.bal - n) := by
      refine ⟨a.bal - n, 0, ?_, HE0.out, fun _ => rfl⟩
      unfold sumV
      rw [okI_yes hg.b0 hg.b1, okI_yes hn0 hn1, okI_yes (show 0 ≤ a.bal - n by omega) (by have := hg.b1; omega)]
      rfl
    have HV := Lib.hid hxE
    have HE := Lib.hid (And.intro hE0 hE)
    have hS := Lib.hid (show Cs [(⟨b, o + 1, none⟩, .int .i64 a.bal), (⟨tb, 0, none⟩, .int .i64 n)] w.drew.drew ∧ Below w.heap.size w w.drew.drew from ⟨⟨c1, ht, trivial⟩, bdrew (bdrew (bref _))⟩)
    clear c0 c1 c2 ht hw hxE hE hE0 hfz hcs hlt
    show Calls Try.prog 47 #[.pointer (some ⟨b, o, none⟩), .pointer (some ⟨tb, 0, none⟩)] w _
    go_enter Try.func47, Try.ntmps47
    go_upto_region 1 with fail
    refine wp_region_held_drew (S := (fun W => Cs [(⟨b, o + 1, none⟩, .int .i64 a.bal), (⟨tb, 0, none⟩, .int .i64 n)] W)) (by kernel_rfl) hS0.out (fun hSK => ?_)
    refine take_d (some 4) (i := 0) (v := ?_) rfl rfl (by kernel_rfl) (by kernel_rfl) (by kernel_rfl) (fun _ _ _ h => h) (Or.inl ⟨by rfl, ?_⟩) (by assumption) ?_
    rotate_left
    · intro w hSw; (dsimp only [Cs] at hSw); go_simp; (try with_reducible rfl)
    try simp only [Act.put, List.setIfInBounds_toArray, List.set_cons_zero, List.set_cons_succ]
    refine wpAnyH_ready (rs := [1]) (by kernel_rfl) (by simp) ?_
    refine AllReadyH.cons rfl (fun K hK => ?_) AllReadyH.nil
    go_simp
    go_at_call 42; refine (valid_any _ _).mono ?_; rintro e w2 ⟨rfl, rfl⟩; rw [HVN.out]
    go_wp2_with fail
    refine hK.out _ _ ?_ (fun hHeld => ?_)
    · exact hSK
    clear hSK
    have hSK := hHeld
    clear hHeld
    clear hK K
    try simp only [Act.put, List.setIfInBounds_toArray, List.set_cons_zero, List.set_cons_succ]
    refine take_d (some 6) (i := 2) (v := ?_) rfl rfl (by kernel_rfl) (by kernel_rfl) (by kernel_rfl) (fun _ _ _ h => h) (Or.inl ⟨by rfl, ?_⟩) (by assumption) ?_
    rotate_left
    · intro w hSw; (dsimp only [Cs] at hSw); go_simp; (try with_reducible rfl)
    try simp only [Act.put, List.setIfInBounds_toArray, List.set_cons_zero, List.set_cons_succ]
    refine take_d (some 7) (i := 3) (v := ?_) rfl rfl (by kernel_rfl) (by kernel_rfl) (by kernel_rfl) (fun _ _ _ h => h) (Or.inl ⟨by rfl, ?_⟩) (by assumption) ?_
    rotate_left
    · intro w hSw; (dsimp only [Cs] at hSw); go_simp; (try with_reducible rfl)
    try simp only [Act.put, List.setIfInBounds_toArray, List.set_cons_zero, List.set_cons_succ]
    refine take_d (some 8) (i := 4) (v := ?_) rfl rfl (by kernel_rfl) (by kernel_rfl) (by kernel_rfl) (fun _ _ _ h => h) (Or.inl ⟨by rfl, ?_⟩) (by assumption) ?_
    rotate_left
    · intro w hSw; (dsimp only [Cs] at hSw); go_simp; (try with_reducible rfl)
    try simp only [Act.put, List.setIfInBounds_toArray, List.set_cons_zero, List.set_cons_succ]
    refine take_d (some 9) (i := 5) (v := ?_) rfl rfl (by kernel_rfl) (by kernel_rfl) (by kernel_rfl) (fun _ _ _ h => h) (Or.inl ⟨by rfl, ?_⟩) (by assumption) ?_
    rotate_left
    · intro w hSw; (dsimp only [Cs] at hSw); go_simp; (try with_reducible rfl)
    try simp only [Act.put, List.setIfInBounds_toArray, List.set_cons_zero, List.set_cons_succ]
    refine take_d (some 10) (i := 6) (v := ?_) rfl rfl (by kernel_rfl) (by kernel_rfl) (by kernel_rfl) (fun _ _ _ h => h) (Or.inl ⟨by rfl, ?_⟩) (by assumption) ?_
    rotate_left
    · intro w hSw; (dsimp only [Cs] at hSw); go_simp; (try with_reducible rfl)
    try simp only [Act.put, List.setIfInBounds_toArray, List.set_cons_zero, List.set_cons_succ]
    refine take_d (some 11) (i := 7) (v := ?_) rfl rfl (by kernel_rfl) (by kernel_rfl) (by kernel_rfl) (fun _ _ _ h => h) (Or.inl ⟨by rfl, ?_⟩) (by assumption) ?_
    rotate_left
    · intro w hSw; (dsimp only [Cs] at hSw); go_simp; (try with_reducible rfl)
    try simp only [Act.put, List.setIfInBounds_toArray, List.set_cons_zero, List.set_cons_succ]
    refine take_d (some 12) (i := 8) (v := ?_) rfl rfl (by kernel_rfl) (by kernel_rfl) (by kernel_rfl) (fun _ _ _ h => h) (Or.inl ⟨by rfl, ?_⟩) (by assumption) ?_
    rotate_left
    · intro w hSw; (dsimp only [Cs] at hSw); go_simp; (try with_reducible rfl)
    try simp only [Act.put, List.setIfInBounds_toArray, List.set_cons_zero, List.set_cons_succ]
    refine take_d (some 13) (i := 9) (v := ?_) rfl rfl (by kernel_rfl) (by kernel_rfl) (by kernel_rfl) (fun _ _ _ h => h) (Or.inl ⟨by rfl, ?_⟩) (by assumption) ?_
    rotate_left
    · intro w hSw; (dsimp only [Cs] at hSw); go_simp; (try with_reducible rfl)
    try simp only [Act.put, List.setIfInBounds_toArray, List.set_cons_zero, List.set_cons_succ]
    refine wpAnyH_done (by kernel_rfl) ?_ _
    clear hSK hS0
    go_upto_region 3 with fail
    refine region_f (fun W => Cs [(⟨b, o + 1, none⟩, .int .i64 a.bal), (⟨tb, 0, none⟩, .int .i64 n)] W ∧ Below w.heap.size w W) [12] (by kernel_rfl) ?_
    have hSK := hS.out
    refine take_y (some 15) (i := 0) (v := ?_) rfl rfl (by kernel_rfl) (by kernel_rfl) (by kernel_rfl) (fun _ _ _ h => h) (Or.inl ⟨by rfl, ?_⟩) ?_
    rotate_left
    · intro w _; go_simp; (try with_reducible rfl)
    try simp only [Act.put, List.setIfInBounds_toArray, List.set_cons_zero, List.set_cons_succ]
    refine take_y (some 16) (i := 1) (v := ?_) rfl rfl (by kernel_rfl) (by kernel_rfl) (by kernel_rfl) (fun _ _ _ h => h) (Or.inl ⟨by rfl, ?_⟩) ?_
    rotate_left
    · intro w _; go_simp; (try with_reducible rfl)
    try simp only [Act.put, List.setIfInBounds_toArray, List.set_cons_zero, List.set_cons_succ]
    refine take_y (some 17) (i := 2) (v := ?_) rfl rfl (by kernel_rfl) (by kernel_rfl) (by kernel_rfl) (fun _ _ _ h => h) (Or.inl ⟨by rfl, ?_⟩) ?_
    rotate_left
    · intro w _; go_simp; (try with_reducible rfl)
    try simp only [Act.put, List.setIfInBounds_toArray, List.set_cons_zero, List.set_cons_succ]
    refine take_y (some 18) (i := 3) (v := ?_) rfl rfl (by kernel_rfl) (by kernel_rfl) (by kernel_rfl) (fun _ _ _ h => h) (Or.inl ⟨by rfl, ?_⟩) ?_
    rotate_left
    · intro w _; go_simp; (try with_reducible rfl)
    try simp only [Act.put, List.setIfInBounds_toArray, List.set_cons_zero, List.set_cons_succ]
    refine take_f (some 19) [6, 7, 8, 9, 10, 11, 12, 13] (i := 4) (v := ?_) rfl rfl (by kernel_rfl) (by kernel_rfl) (by kernel_rfl) (by kernel_rfl) (fun _ _ _ h => h) (Or.inl ⟨by rfl, ?_⟩) (by assumption) ?_
    rotate_left
    · intro w hSw; (dsimp only [Cs] at hSw); go_simp; (try with_reducible rfl)
    try simp only [Act.put, List.setIfInBounds_toArray, List.set_cons_zero, List.set_cons_succ]
    refine take_f (some 20) [6, 7, 8, 9, 10, 11, 12, 13] (i := 5) (v := ?_) rfl rfl (by kernel_rfl) (by kernel_rfl) (by kernel_rfl) (by kernel_rfl) (fun _ _ _ h => h) (Or.inl ⟨by rfl, ?_⟩) (by assumption) ?_
    rotate_left
    · intro w hSw; (dsimp only [Cs] at hSw); go_simp; (try with_reducible rfl)
    try simp only [Act.put, List.setIfInBounds_toArray, List.set_cons_zero, List.set_cons_succ]
    refine one_f (i := 6) (by kernel_rfl) rfl (fun K hK => ?_)
    go_simp
    go_at_call 48; refine (HADD.out _).mono ?_; rintro e WK ⟨rfl, hbK⟩; rw [HV.out]
    go_wp2_with fail
    have hSK2 := (show Cs _ _ ∧ Below _ _ _ from ⟨hSK.1.below hbK, bstep hSK.2 hbK⟩)
    refine hK.out _ _ (Or.inr (fun _ => hSK2)) ?_
    clear hK K hSK
    try simp only [Act.put, List.setIfInBounds_toArray, List.set_cons_zero, List.set_cons_succ]
    refine take_y (some 14) (i := 7) (v := ?_) rfl rfl (by kernel_rfl) (by kernel_rfl) (by kernel_rfl) (fun _ _ _ h => h) (Or.inl ⟨by rfl, ?_⟩) ?_
    rotate_left
    · intro w _; go_simp; (try with_reducible rfl)
    try simp only [Act.put, List.setIfInBounds_toArray, List.set_cons_zero, List.set_cons_succ]
    refine take_y (some 22) (i := 8) (v := ?_) rfl rfl (by kernel_rfl) (by kernel_rfl) (by kernel_rfl) (fun _ _ _ h => h) (Or.inl ⟨by rfl, ?_⟩) ?_
    rotate_left
    · intro w _; go_simp; (try with_reducible rfl)
    try simp only [Act.put, List.setIfInBounds_toArray, List.set_cons_zero, List.set_cons_succ]
    refine take_y (some 23) (i := 9) (v := ?_) rfl rfl (by kernel_rfl) (by kernel_rfl) (by kernel_rfl) (fun _ _ _ h => h) (Or.inl ⟨by rfl, ?_⟩) ?_
    rotate_left
    · intro w _; go_simp; (try with_reducible rfl)
    try simp only [Act.put, List.setIfInBounds_toArray, List.set_cons_zero, List.set_cons_succ]
    refine take_y (some 24) (i := 10) (v := ?_) rfl rfl (by kernel_rfl) (by kernel_rfl) (by kernel_rfl) (fun _ _ _ h => h) (Or.inl ⟨by rfl, ?_⟩) ?_
    rotate_left
    · intro w _; go_simp; (try with_reducible rfl)
    try simp only [Act.put, List.setIfInBounds_toArray, List.set_cons_zero, List.set_cons_succ]
    refine take_y (some 25) (i := 11) (v := ?_) rfl rfl (by kernel_rfl) (by kernel_rfl) (by kernel_rfl) (fun _ _ _ h => h) (Or.inl ⟨by rfl, ?_⟩) ?_
    rotate_left
    · intro w _; go_simp; (try with_reducible rfl)
    try simp only [Act.put, List.setIfInBounds_toArray, List.set_cons_zero, List.set_cons_succ]
    refine one_f (i := 12) (by kernel_rfl) rfl (fun K hK => ?_)
    obtain ⟨⟨z1, z2, _⟩, z3⟩ := id hSK2
    have hbW : Below w.heap.size w WK := bstep (bdrew (bdrew (bref w))) hbK
    have zf := (hbW.frozen (p := ⟨b, o + 1, none⟩) hbl).trans hfz1
    go_simp
    refine hK.out _ _ (Or.inl (by kernel_rfl)) ?_
    clear hK K
    try simp only [Act.put, List.setIfInBounds_toArray, List.set_cons_zero, List.set_cons_succ]
    refine take_y (some 3) (i := 13) (v := ?_) rfl rfl (by kernel_rfl) (by kernel_rfl) (by kernel_rfl) (fun _ _ _ h => h) (Or.inl ⟨by rfl, ?_⟩) ?_
    rotate_left
    · intro w _; go_simp; (try with_reducible rfl)
    try simp only [Act.put, List.setIfInBounds_toArray, List.set_cons_zero, List.set_cons_succ]
    refine done_f (by kernel_rfl) ?_ _
    have HPOST := Lib.hid (elem_post (o := o) (v := .int .i64 x) hbW hbl HFZ.out)
    have HIN := Lib.hid (show E = 0 → Cs [(⟨b, o, none⟩, .int .i64 a.id), (⟨b, o + 1, none⟩, .int .i64 (a.bal - n)), (⟨b, o + 2, none⟩, .int .i64 a.seq)] (WK.setCell ⟨b, o + 1, none⟩ (.int .i64 x)) from fun h0 => by
      obtain ⟨k0, k1, k2, _⟩ := HC.out.below hbW
      rw [HE.out.2 h0]
      exact ⟨(World.cell?_setCell_other _ _ _ _ (fun e => by simp at e)).trans k0, World.cell?_setCell_same _ _ _ (by rw [k1]), (World.cell?_setCell_other _ _ _ _ (fun e => by simp at e)).trans k2, trivial⟩)
    clear z1 z2 z3 zf hbK hbW
    go_wp2_with fail
    go_ret
    exact ⟨by rw [HE.out.1]; rfl, HPOST.out.1, HPOST.out.2, fun h => HIN.out (HE.out.1.symm.trans h)⟩

theorem frozen_setS (w : World) (p q : Addr) (v : Value) : (w.setCell p v).frozen? q = w.frozen? q := World.frozen?_setCell _ _ _ _

def beginE (s f : Int) (a : Acc) : Int := if s ≠ a.seq + 1 ∨ 1000000 < s then 68 else if f < 1 ∨ 100000 < f then 69 else if a.bal < f then 66 else 0

def beginU (s f : Int) (a : Acc) : Acc := ⟨a.id, a.bal - f, s⟩

set_option maxRecDepth 100000 in
set_option maxHeartbeats 4000000 in
theorem begin1_run (s f : Int) (tb tf : Nat) (a : Acc) (w0 : World) (hg : AccG a) (htb : w0.cell? ⟨tb, 0, none⟩ = some (.int .i64 s)) (htf : w0.cell? ⟨tf, 0, none⟩ = some (.int .i64 f)) :
    ClO 40 #[.pointer (some ⟨tb, 0, none⟩), .pointer (some ⟨tf, 0, none⟩)] (beginE s f) (beginU s f) a w0 := by
  intro b o w hbw hbl hB hcs hfz
  obtain ⟨c0, c1, c2, _⟩ := id hcs
  have htl : tb < w0.heap.size := cell_lt htb
  have htl2 : tf < w0.heap.size := cell_lt htf
  have ht : w.cell? ⟨tb, 0, none⟩ = some (.int .i64 s) := (hB.cell (p := ⟨tb, 0, none⟩) htl).trans htb
  have ht2 : w.cell? ⟨tf, 0, none⟩ = some (.int .i64 f) := (hB.cell (p := ⟨tf, 0, none⟩) htl2).trans htf
  have hS1 := Lib.hid (show Cs [(⟨b, o + 1, none⟩, .int .i64 a.bal), (⟨b, o + 2, none⟩, .int .i64 a.seq), (⟨tb, 0, none⟩, .int .i64 s), (⟨tf, 0, none⟩, .int .i64 f)] w.drew from ⟨c1, c2, ht, ht2, trivial⟩)
  have hS2 := Lib.hid (show Cs [(⟨b, o + 1, none⟩, .int .i64 a.bal), (⟨b, o + 2, none⟩, .int .i64 a.seq), (⟨tb, 0, none⟩, .int .i64 s), (⟨tf, 0, none⟩, .int .i64 f)] w.drew.drew from ⟨c1, c2, ht, ht2, trivial⟩)
  have hS3 := Lib.hid (show Cs [(⟨b, o + 1, none⟩, .int .i64 a.bal), (⟨b, o + 2, none⟩, .int .i64 a.seq), (⟨tb, 0, none⟩, .int .i64 s), (⟨tf, 0, none⟩, .int .i64 f)] w.drew.drew.drew from ⟨c1, c2, ht, ht2, trivial⟩)
  have hw : IntKind.i64.wrap (a.seq + 1) = a.seq + 1 := IntWalk.i64_in _ (by have := hg.s0; have := hg.s1; omega)
  have HFZ := Lib.hid hfz
  have HC := Lib.hid hcs
  have hb0 := hg.b0
  have hb1 := hg.b1
  clear hfz hcs c0 c1 c2 ht ht2 hB
  rcases (show s ≠ a.seq + 1 ∨ (s = a.seq + 1 ∧ 1000000 < s) ∨ (s = a.seq + 1 ∧ s ≤ 1000000) by omega) with h1 | h1 | h1
  · have HE := Lib.hid (show beginE s f a = 68 from if_pos (.inl h1))
    have q0 : (s != a.seq + 1) = true := bne_iff_ne.2 h1
    clear h1
    show Calls Try.prog 40 #[.pointer (some ⟨b, o, none⟩), .pointer (some ⟨tb, 0, none⟩), .pointer (some ⟨tf, 0, none⟩)] w _
    go_enter Try.func40, Try.ntmps40
    go_upto_region 1 with fail
    refine wp_region_held_drew (S := (fun W => Cs [(⟨b, o + 1, none⟩, .int .i64 a.bal), (⟨b, o + 2, none⟩, .int .i64 a.seq), (⟨tb, 0, none⟩, .int .i64 s), (⟨tf, 0, none⟩, .int .i64 f)] W)) (by kernel_rfl) hS1.out (fun hSK => ?_)
    refine take_d (some 6) (i := 0) (v := ?_) rfl rfl (by kernel_rfl) (by kernel_rfl) (by kernel_rfl) (fun _ _ _ h => h) (Or.inl ⟨by rfl, ?_⟩) (by assumption) ?_
    rotate_left
    · intro w hSw; (dsimp only [Cs] at hSw); go_simp; (try with_reducible rfl)
    try simp only [Act.put, List.setIfInBounds_toArray, List.set_cons_zero, List.set_cons_succ]
    refine take_d (some 7) (i := 1) (v := ?_) rfl rfl (by kernel_rfl) (by kernel_rfl) (by kernel_rfl) (fun _ _ _ h => h) (Or.inl ⟨by rfl, ?_⟩) (by assumption) ?_
    rotate_left
    · intro w hSw; (dsimp only [Cs] at hSw); go_simp; (try with_reducible rfl)
    try simp only [Act.put, List.setIfInBounds_toArray, List.set_cons_zero, List.set_cons_succ]
    refine take_d (some 8) (i := 2) (v := ?_) rfl rfl (by kernel_rfl) (by kernel_rfl) (by kernel_rfl) (fun _ _ _ h => h) (Or.inl ⟨by rfl, ?_⟩) (by assumption) ?_
    rotate_left
    · intro w hSw; (dsimp only [Cs] at hSw); go_simp; (try with_reducible rfl)
    try simp only [Act.put, List.setIfInBounds_toArray, List.set_cons_zero, List.set_cons_succ]
    refine take_d (some 9) (i := 3) (v := ?_) rfl rfl (by kernel_rfl) (by kernel_rfl) (by kernel_rfl) (fun _ _ _ h => h) (Or.inl ⟨by rfl, ?_⟩) (by assumption) ?_
    rotate_left
    · intro w hSw; (dsimp only [Cs] at hSw); go_simp; (try with_reducible rfl)
    try simp only [Act.put, List.setIfInBounds_toArray, List.set_cons_zero, List.set_cons_succ]
    refine take_d (some 10) (i := 4) (v := ?_) rfl rfl (by kernel_rfl) (by kernel_rfl) (by kernel_rfl) (fun _ _ _ h => h) (Or.inl ⟨by rfl, ?_⟩) (by assumption) ?_
    rotate_left
    · intro w hSw; (dsimp only [Cs] at hSw); go_simp; (try with_reducible rfl)
    try simp only [Act.put, List.setIfInBounds_toArray, List.set_cons_zero, List.set_cons_succ]
    refine take_d (some 11) (i := 5) (v := ?_) rfl rfl (by kernel_rfl) (by kernel_rfl) (by kernel_rfl) (fun _ _ _ h => h) (Or.inl ⟨by rfl, ?_⟩) (by assumption) ?_
    rotate_left
    · intro w hSw; (dsimp only [Cs] at hSw); go_simp; (try with_reducible rfl)
    try simp only [Act.put, List.setIfInBounds_toArray, List.set_cons_zero, List.set_cons_succ]
    refine take_d (some 12) (i := 6) (v := ?_) rfl rfl (by kernel_rfl) (by kernel_rfl) (by kernel_rfl) (fun _ _ _ h => h) (Or.inl ⟨by rfl, ?_⟩) (by assumption) ?_
    rotate_left
    · intro w hSw; (dsimp only [Cs] at hSw); go_simp; (try with_reducible rfl)
    try simp only [Act.put, List.setIfInBounds_toArray, List.set_cons_zero, List.set_cons_succ]
    refine take_d (some 13) (i := 7) (v := ?_) rfl rfl (by kernel_rfl) (by kernel_rfl) (by kernel_rfl) (fun _ _ _ h => h) (Or.inl ⟨by rfl, ?_⟩) (by assumption) ?_
    rotate_left
    · intro w hSw; (dsimp only [Cs] at hSw); go_simp; (try with_reducible rfl)
    try simp only [Act.put, List.setIfInBounds_toArray, List.set_cons_zero, List.set_cons_succ]
    refine take_d (some 14) (i := 8) (v := undef) rfl rfl (by kernel_rfl) (by kernel_rfl) (by kernel_rfl) (fun _ _ _ h => h) (Or.inr ⟨by rfl, rfl⟩) (by assumption) ?_
    try simp only [Act.put, List.setIfInBounds_toArray, List.set_cons_zero, List.set_cons_succ]
    refine take_d (some 15) (i := 9) (v := undef) rfl rfl (by kernel_rfl) (by kernel_rfl) (by kernel_rfl) (fun _ _ _ h => h) (Or.inr ⟨by rfl, rfl⟩) (by assumption) ?_
    try simp only [Act.put, List.setIfInBounds_toArray, List.set_cons_zero, List.set_cons_succ]
    refine take_d (some 16) (i := 10) (v := ?_) rfl rfl (by kernel_rfl) (by kernel_rfl) (by kernel_rfl) (fun _ _ _ h => h) (Or.inl ⟨by rfl, ?_⟩) (by assumption) ?_
    rotate_left
    · intro w hSw; (dsimp only [Cs] at hSw); go_simp; (try with_reducible rfl)
    try simp only [Act.put, List.setIfInBounds_toArray, List.set_cons_zero, List.set_cons_succ]
    refine take_d (some 5) (i := 11) (v := ?_) rfl rfl (by kernel_rfl) (by kernel_rfl) (by kernel_rfl) (fun _ _ _ h => h) (Or.inl ⟨by rfl, ?_⟩) (by assumption) ?_
    rotate_left
    · intro w hSw; (dsimp only [Cs] at hSw); go_simp; (try with_reducible rfl)
    try simp only [Act.put, List.setIfInBounds_toArray, List.set_cons_zero, List.set_cons_succ]
    refine wpAnyH_done (by kernel_rfl) ?_ _
    clear hSK
    go_wp2_with fail
    go_ret
    exact ⟨by rw [HE.out]; rfl, grown_below (bdrew (bref _)), fun q hq => rfl, fun h => by rw [HE.out] at h; cases h⟩
  · have HE := Lib.hid (show beginE s f a = 68 from if_pos (.inr h1.2))
    have q0 : (s != a.seq + 1) = false := by simp [h1.1]
    have q1 : decide (1000000 < s) = true := decide_eq_true h1.2
    clear h1
    show Calls Try.prog 40 #[.pointer (some ⟨b, o, none⟩), .pointer (some ⟨tb, 0, none⟩), .pointer (some ⟨tf, 0, none⟩)] w _
    go_enter Try.func40, Try.ntmps40
    go_upto_region 1 with fail
    refine wp_region_held_drew (S := (fun W => Cs [(⟨b, o + 1, none⟩, .int .i64 a.bal), (⟨b, o + 2, none⟩, .int .i64 a.seq), (⟨tb, 0, none⟩, .int .i64 s), (⟨tf, 0, none⟩, .int .i64 f)] W)) (by kernel_rfl) hS1.out (fun hSK => ?_)
    refine take_d (some 6) (i := 0) (v := ?_) rfl rfl (by kernel_rfl) (by kernel_rfl) (by kernel_rfl) (fun _ _ _ h => h) (Or.inl ⟨by rfl, ?_⟩) (by assumption) ?_
    rotate_left
    · intro w hSw; (dsimp only [Cs] at hSw); go_simp; (try with_reducible rfl)
    try simp only [Act.put, List.setIfInBounds_toArray, List.set_cons_zero, List.set_cons_succ]
    refine take_d (some 7) (i := 1) (v := ?_) rfl rfl (by kernel_rfl) (by kernel_rfl) (by kernel_rfl) (fun _ _ _ h => h) (Or.inl ⟨by rfl, ?_⟩) (by assumption) ?_
    rotate_left
    · intro w hSw; (dsimp only [Cs] at hSw); go_simp; (try with_reducible rfl)
    try simp only [Act.put, List.setIfInBounds_toArray, List.set_cons_zero, List.set_cons_succ]
    refine take_d (some 8) (i := 2) (v := ?_) rfl rfl (by kernel_rfl) (by kernel_rfl) (by kernel_rfl) (fun _ _ _ h => h) (Or.inl ⟨by rfl, ?_⟩) (by assumption) ?_
    rotate_left
    · intro w hSw; (dsimp only [Cs] at hSw); go_simp; (try with_reducible rfl)
    try simp only [Act.put, List.setIfInBounds_toArray, List.set_cons_zero, List.set_cons_succ]
    refine take_d (some 9) (i := 3) (v := ?_) rfl rfl (by kernel_rfl) (by kernel_rfl) (by kernel_rfl) (fun _ _ _ h => h) (Or.inl ⟨by rfl, ?_⟩) (by assumption) ?_
    rotate_left
    · intro w hSw; (dsimp only [Cs] at hSw); go_simp; (try with_reducible rfl)
    try simp only [Act.put, List.setIfInBounds_toArray, List.set_cons_zero, List.set_cons_succ]
    refine take_d (some 10) (i := 4) (v := ?_) rfl rfl (by kernel_rfl) (by kernel_rfl) (by kernel_rfl) (fun _ _ _ h => h) (Or.inl ⟨by rfl, ?_⟩) (by assumption) ?_
    rotate_left
    · intro w hSw; (dsimp only [Cs] at hSw); go_simp; (try with_reducible rfl)
    try simp only [Act.put, List.setIfInBounds_toArray, List.set_cons_zero, List.set_cons_succ]
    refine take_d (some 11) (i := 5) (v := ?_) rfl rfl (by kernel_rfl) (by kernel_rfl) (by kernel_rfl) (fun _ _ _ h => h) (Or.inl ⟨by rfl, ?_⟩) (by assumption) ?_
    rotate_left
    · intro w hSw; (dsimp only [Cs] at hSw); go_simp; (try with_reducible rfl)
    try simp only [Act.put, List.setIfInBounds_toArray, List.set_cons_zero, List.set_cons_succ]
    refine take_d (some 12) (i := 6) (v := ?_) rfl rfl (by kernel_rfl) (by kernel_rfl) (by kernel_rfl) (fun _ _ _ h => h) (Or.inl ⟨by rfl, ?_⟩) (by assumption) ?_
    rotate_left
    · intro w hSw; (dsimp only [Cs] at hSw); go_simp; (try with_reducible rfl)
    try simp only [Act.put, List.setIfInBounds_toArray, List.set_cons_zero, List.set_cons_succ]
    refine take_d (some 13) (i := 7) (v := ?_) rfl rfl (by kernel_rfl) (by kernel_rfl) (by kernel_rfl) (fun _ _ _ h => h) (Or.inl ⟨by rfl, ?_⟩) (by assumption) ?_
    rotate_left
    · intro w hSw; (dsimp only [Cs] at hSw); go_simp; (try with_reducible rfl)
    try simp only [Act.put, List.setIfInBounds_toArray, List.set_cons_zero, List.set_cons_succ]
    refine take_d (some 14) (i := 8) (v := ?_) rfl rfl (by kernel_rfl) (by kernel_rfl) (by kernel_rfl) (fun _ _ _ h => h) (Or.inl ⟨by rfl, ?_⟩) (by assumption) ?_
    rotate_left
    · intro w hSw; (dsimp only [Cs] at hSw); go_simp; (try with_reducible rfl)
    try simp only [Act.put, List.setIfInBounds_toArray, List.set_cons_zero, List.set_cons_succ]
    refine take_d (some 15) (i := 9) (v := ?_) rfl rfl (by kernel_rfl) (by kernel_rfl) (by kernel_rfl) (fun _ _ _ h => h) (Or.inl ⟨by rfl, ?_⟩) (by assumption) ?_
    rotate_left
    · intro w hSw; (dsimp only [Cs] at hSw); go_simp; (try with_reducible rfl)
    try simp only [Act.put, List.setIfInBounds_toArray, List.set_cons_zero, List.set_cons_succ]
    refine take_d (some 16) (i := 10) (v := ?_) rfl rfl (by kernel_rfl) (by kernel_rfl) (by kernel_rfl) (fun _ _ _ h => h) (Or.inl ⟨by rfl, ?_⟩) (by assumption) ?_
    rotate_left
    · intro w hSw; (dsimp only [Cs] at hSw); go_simp; (try with_reducible rfl)
    try simp only [Act.put, List.setIfInBounds_toArray, List.set_cons_zero, List.set_cons_succ]
    refine take_d (some 5) (i := 11) (v := ?_) rfl rfl (by kernel_rfl) (by kernel_rfl) (by kernel_rfl) (fun _ _ _ h => h) (Or.inl ⟨by rfl, ?_⟩) (by assumption) ?_
    rotate_left
    · intro w hSw; (dsimp only [Cs] at hSw); go_simp; (try with_reducible rfl)
    try simp only [Act.put, List.setIfInBounds_toArray, List.set_cons_zero, List.set_cons_succ]
    refine wpAnyH_done (by kernel_rfl) ?_ _
    clear hSK
    go_wp2_with fail
    go_ret
    exact ⟨by rw [HE.out]; rfl, grown_below (bdrew (bref _)), fun q hq => rfl, fun h => by rw [HE.out] at h; cases h⟩
  · have q0 : (s != a.seq + 1) = false := by simp [h1.1]
    have q1 : decide (1000000 < s) = false := decide_eq_false (by omega)
    have HN := Lib.hid (show ¬ (s ≠ a.seq + 1 ∨ 1000000 < s) by omega)
    clear h1
    rcases (show f < 1 ∨ (1 ≤ f ∧ 100000 < f) ∨ (1 ≤ f ∧ f ≤ 100000 ∧ a.bal < f) ∨ (1 ≤ f ∧ f ≤ 100000 ∧ f ≤ a.bal) by omega) with h2 | h2 | h2 | h2
    · have HE := Lib.hid (show beginE s f a = 69 by unfold beginE; rw [if_neg HN.out, if_pos (.inl h2)])
      have q2 : decide (f < 1) = true := decide_eq_true h2
      clear h2
      obtain ⟨z1, z2, z3, z4, _⟩ := hS1.out
      show Calls Try.prog 40 #[.pointer (some ⟨b, o, none⟩), .pointer (some ⟨tb, 0, none⟩), .pointer (some ⟨tf, 0, none⟩)] w _
      go_enter Try.func40, Try.ntmps40
      go_upto_region 1 with fail
      refine wp_region_held_drew (S := (fun W => Cs [(⟨b, o + 1, none⟩, .int .i64 a.bal), (⟨b, o + 2, none⟩, .int .i64 a.seq), (⟨tb, 0, none⟩, .int .i64 s), (⟨tf, 0, none⟩, .int .i64 f)] W)) (by kernel_rfl) hS1.out (fun hSK => ?_)
      refine take_d (some 6) (i := 0) (v := ?_) rfl rfl (by kernel_rfl) (by kernel_rfl) (by kernel_rfl) (fun _ _ _ h => h) (Or.inl ⟨by rfl, ?_⟩) (by assumption) ?_
      rotate_left
      · intro w hSw; (dsimp only [Cs] at hSw); go_simp; (try with_reducible rfl)
      try simp only [Act.put, List.setIfInBounds_toArray, List.set_cons_zero, List.set_cons_succ]
      refine take_d (some 7) (i := 1) (v := ?_) rfl rfl (by kernel_rfl) (by kernel_rfl) (by kernel_rfl) (fun _ _ _ h => h) (Or.inl ⟨by rfl, ?_⟩) (by assumption) ?_
      rotate_left
      · intro w hSw; (dsimp only [Cs] at hSw); go_simp; (try with_reducible rfl)
      try simp only [Act.put, List.setIfInBounds_toArray, List.set_cons_zero, List.set_cons_succ]
      refine take_d (some 8) (i := 2) (v := ?_) rfl rfl (by kernel_rfl) (by kernel_rfl) (by kernel_rfl) (fun _ _ _ h => h) (Or.inl ⟨by rfl, ?_⟩) (by assumption) ?_
      rotate_left
      · intro w hSw; (dsimp only [Cs] at hSw); go_simp; (try with_reducible rfl)
      try simp only [Act.put, List.setIfInBounds_toArray, List.set_cons_zero, List.set_cons_succ]
      refine take_d (some 9) (i := 3) (v := ?_) rfl rfl (by kernel_rfl) (by kernel_rfl) (by kernel_rfl) (fun _ _ _ h => h) (Or.inl ⟨by rfl, ?_⟩) (by assumption) ?_
      rotate_left
      · intro w hSw; (dsimp only [Cs] at hSw); go_simp; (try with_reducible rfl)
      try simp only [Act.put, List.setIfInBounds_toArray, List.set_cons_zero, List.set_cons_succ]
      refine take_d (some 10) (i := 4) (v := ?_) rfl rfl (by kernel_rfl) (by kernel_rfl) (by kernel_rfl) (fun _ _ _ h => h) (Or.inl ⟨by rfl, ?_⟩) (by assumption) ?_
      rotate_left
      · intro w hSw; (dsimp only [Cs] at hSw); go_simp; (try with_reducible rfl)
      try simp only [Act.put, List.setIfInBounds_toArray, List.set_cons_zero, List.set_cons_succ]
      refine take_d (some 11) (i := 5) (v := ?_) rfl rfl (by kernel_rfl) (by kernel_rfl) (by kernel_rfl) (fun _ _ _ h => h) (Or.inl ⟨by rfl, ?_⟩) (by assumption) ?_
      rotate_left
      · intro w hSw; (dsimp only [Cs] at hSw); go_simp; (try with_reducible rfl)
      try simp only [Act.put, List.setIfInBounds_toArray, List.set_cons_zero, List.set_cons_succ]
      refine take_d (some 12) (i := 6) (v := ?_) rfl rfl (by kernel_rfl) (by kernel_rfl) (by kernel_rfl) (fun _ _ _ h => h) (Or.inl ⟨by rfl, ?_⟩) (by assumption) ?_
      rotate_left
      · intro w hSw; (dsimp only [Cs] at hSw); go_simp; (try with_reducible rfl)
      try simp only [Act.put, List.setIfInBounds_toArray, List.set_cons_zero, List.set_cons_succ]
      refine take_d (some 13) (i := 7) (v := ?_) rfl rfl (by kernel_rfl) (by kernel_rfl) (by kernel_rfl) (fun _ _ _ h => h) (Or.inl ⟨by rfl, ?_⟩) (by assumption) ?_
      rotate_left
      · intro w hSw; (dsimp only [Cs] at hSw); go_simp; (try with_reducible rfl)
      try simp only [Act.put, List.setIfInBounds_toArray, List.set_cons_zero, List.set_cons_succ]
      refine take_d (some 14) (i := 8) (v := ?_) rfl rfl (by kernel_rfl) (by kernel_rfl) (by kernel_rfl) (fun _ _ _ h => h) (Or.inl ⟨by rfl, ?_⟩) (by assumption) ?_
      rotate_left
      · intro w hSw; (dsimp only [Cs] at hSw); go_simp; (try with_reducible rfl)
      try simp only [Act.put, List.setIfInBounds_toArray, List.set_cons_zero, List.set_cons_succ]
      refine take_d (some 15) (i := 9) (v := ?_) rfl rfl (by kernel_rfl) (by kernel_rfl) (by kernel_rfl) (fun _ _ _ h => h) (Or.inl ⟨by rfl, ?_⟩) (by assumption) ?_
      rotate_left
      · intro w hSw; (dsimp only [Cs] at hSw); go_simp; (try with_reducible rfl)
      try simp only [Act.put, List.setIfInBounds_toArray, List.set_cons_zero, List.set_cons_succ]
      refine take_d (some 16) (i := 10) (v := ?_) rfl rfl (by kernel_rfl) (by kernel_rfl) (by kernel_rfl) (fun _ _ _ h => h) (Or.inl ⟨by rfl, ?_⟩) (by assumption) ?_
      rotate_left
      · intro w hSw; (dsimp only [Cs] at hSw); go_simp; (try with_reducible rfl)
      try simp only [Act.put, List.setIfInBounds_toArray, List.set_cons_zero, List.set_cons_succ]
      refine take_d (some 5) (i := 11) (v := ?_) rfl rfl (by kernel_rfl) (by kernel_rfl) (by kernel_rfl) (fun _ _ _ h => h) (Or.inl ⟨by rfl, ?_⟩) (by assumption) ?_
      rotate_left
      · intro w hSw; (dsimp only [Cs] at hSw); go_simp; (try with_reducible rfl)
      try simp only [Act.put, List.setIfInBounds_toArray, List.set_cons_zero, List.set_cons_succ]
      refine wpAnyH_done (by kernel_rfl) ?_ _
      clear hSK
      go_wp2_with fail
      go_ret
      exact ⟨by rw [HE.out]; rfl, grown_below (bdrew (bref _)), fun q hq => rfl, fun h => by rw [HE.out] at h; cases h⟩
    · have HE := Lib.hid (show beginE s f a = 69 by unfold beginE; rw [if_neg HN.out, if_pos (.inr h2.2)])
      have q2 : decide (f < 1) = false := decide_eq_false (by omega)
      have q3 : decide (100000 < f) = true := decide_eq_true h2.2
      clear h2
      obtain ⟨z1, z2, z3, z4, _⟩ := hS1.out
      show Calls Try.prog 40 #[.pointer (some ⟨b, o, none⟩), .pointer (some ⟨tb, 0, none⟩), .pointer (some ⟨tf, 0, none⟩)] w _
      go_enter Try.func40, Try.ntmps40
      go_upto_region 1 with fail
      refine wp_region_held_drew (S := (fun W => Cs [(⟨b, o + 1, none⟩, .int .i64 a.bal), (⟨b, o + 2, none⟩, .int .i64 a.seq), (⟨tb, 0, none⟩, .int .i64 s), (⟨tf, 0, none⟩, .int .i64 f)] W)) (by kernel_rfl) hS1.out (fun hSK => ?_)
      refine take_d (some 6) (i := 0) (v := ?_) rfl rfl (by kernel_rfl) (by kernel_rfl) (by kernel_rfl) (fun _ _ _ h => h) (Or.inl ⟨by rfl, ?_⟩) (by assumption) ?_
      rotate_left
      · intro w hSw; (dsimp only [Cs] at hSw); go_simp; (try with_reducible rfl)
      try simp only [Act.put, List.setIfInBounds_toArray, List.set_cons_zero, List.set_cons_succ]
      refine take_d (some 7) (i := 1) (v := ?_) rfl rfl (by kernel_rfl) (by kernel_rfl) (by kernel_rfl) (fun _ _ _ h => h) (Or.inl ⟨by rfl, ?_⟩) (by assumption) ?_
      rotate_left
      · intro w hSw; (dsimp only [Cs] at hSw); go_simp; (try with_reducible rfl)
      try simp only [Act.put, List.setIfInBounds_toArray, List.set_cons_zero, List.set_cons_succ]
      refine take_d (some 8) (i := 2) (v := ?_) rfl rfl (by kernel_rfl) (by kernel_rfl) (by kernel_rfl) (fun _ _ _ h => h) (Or.inl ⟨by rfl, ?_⟩) (by assumption) ?_
      rotate_left
      · intro w hSw; (dsimp only [Cs] at hSw); go_simp; (try with_reducible rfl)
      try simp only [Act.put, List.setIfInBounds_toArray, List.set_cons_zero, List.set_cons_succ]
      refine take_d (some 9) (i := 3) (v := ?_) rfl rfl (by kernel_rfl) (by kernel_rfl) (by kernel_rfl) (fun _ _ _ h => h) (Or.inl ⟨by rfl, ?_⟩) (by assumption) ?_
      rotate_left
      · intro w hSw; (dsimp only [Cs] at hSw); go_simp; (try with_reducible rfl)
      try simp only [Act.put, List.setIfInBounds_toArray, List.set_cons_zero, List.set_cons_succ]
      refine take_d (some 10) (i := 4) (v := ?_) rfl rfl (by kernel_rfl) (by kernel_rfl) (by kernel_rfl) (fun _ _ _ h => h) (Or.inl ⟨by rfl, ?_⟩) (by assumption) ?_
      rotate_left
      · intro w hSw; (dsimp only [Cs] at hSw); go_simp; (try with_reducible rfl)
      try simp only [Act.put, List.setIfInBounds_toArray, List.set_cons_zero, List.set_cons_succ]
      refine take_d (some 11) (i := 5) (v := ?_) rfl rfl (by kernel_rfl) (by kernel_rfl) (by kernel_rfl) (fun _ _ _ h => h) (Or.inl ⟨by rfl, ?_⟩) (by assumption) ?_
      rotate_left
      · intro w hSw; (dsimp only [Cs] at hSw); go_simp; (try with_reducible rfl)
      try simp only [Act.put, List.setIfInBounds_toArray, List.set_cons_zero, List.set_cons_succ]
      refine take_d (some 12) (i := 6) (v := ?_) rfl rfl (by kernel_rfl) (by kernel_rfl) (by kernel_rfl) (fun _ _ _ h => h) (Or.inl ⟨by rfl, ?_⟩) (by assumption) ?_
      rotate_left
      · intro w hSw; (dsimp only [Cs] at hSw); go_simp; (try with_reducible rfl)
      try simp only [Act.put, List.setIfInBounds_toArray, List.set_cons_zero, List.set_cons_succ]
      refine take_d (some 13) (i := 7) (v := ?_) rfl rfl (by kernel_rfl) (by kernel_rfl) (by kernel_rfl) (fun _ _ _ h => h) (Or.inl ⟨by rfl, ?_⟩) (by assumption) ?_
      rotate_left
      · intro w hSw; (dsimp only [Cs] at hSw); go_simp; (try with_reducible rfl)
      try simp only [Act.put, List.setIfInBounds_toArray, List.set_cons_zero, List.set_cons_succ]
      refine take_d (some 14) (i := 8) (v := ?_) rfl rfl (by kernel_rfl) (by kernel_rfl) (by kernel_rfl) (fun _ _ _ h => h) (Or.inl ⟨by rfl, ?_⟩) (by assumption) ?_
      rotate_left
      · intro w hSw; (dsimp only [Cs] at hSw); go_simp; (try with_reducible rfl)
      try simp only [Act.put, List.setIfInBounds_toArray, List.set_cons_zero, List.set_cons_succ]
      refine take_d (some 15) (i := 9) (v := ?_) rfl rfl (by kernel_rfl) (by kernel_rfl) (by kernel_rfl) (fun _ _ _ h => h) (Or.inl ⟨by rfl, ?_⟩) (by assumption) ?_
      rotate_left
      · intro w hSw; (dsimp only [Cs] at hSw); go_simp; (try with_reducible rfl)
      try simp only [Act.put, List.setIfInBounds_toArray, List.set_cons_zero, List.set_cons_succ]
      refine take_d (some 16) (i := 10) (v := ?_) rfl rfl (by kernel_rfl) (by kernel_rfl) (by kernel_rfl) (fun _ _ _ h => h) (Or.inl ⟨by rfl, ?_⟩) (by assumption) ?_
      rotate_left
      · intro w hSw; (dsimp only [Cs] at hSw); go_simp; (try with_reducible rfl)
      try simp only [Act.put, List.setIfInBounds_toArray, List.set_cons_zero, List.set_cons_succ]
      refine take_d (some 5) (i := 11) (v := ?_) rfl rfl (by kernel_rfl) (by kernel_rfl) (by kernel_rfl) (fun _ _ _ h => h) (Or.inl ⟨by rfl, ?_⟩) (by assumption) ?_
      rotate_left
      · intro w hSw; (dsimp only [Cs] at hSw); go_simp; (try with_reducible rfl)
      try simp only [Act.put, List.setIfInBounds_toArray, List.set_cons_zero, List.set_cons_succ]
      refine wpAnyH_done (by kernel_rfl) ?_ _
      clear hSK
      go_wp2_with fail
      go_ret
      exact ⟨by rw [HE.out]; rfl, grown_below (bdrew (bref _)), fun q hq => rfl, fun h => by rw [HE.out] at h; cases h⟩
    · have HE := Lib.hid (show beginE s f a = 66 by unfold beginE; rw [if_neg HN.out, if_neg (by omega), if_pos h2.2.2])
      have q2 : decide (f < 1) = false := decide_eq_false (by omega)
      have q3 : decide (100000 < f) = false := decide_eq_false (by omega)
      have q4 : decide (a.bal < f) = true := decide_eq_true h2.2.2
      clear h2
      obtain ⟨z1, z2, z3, z4, _⟩ := hS1.out
      show Calls Try.prog 40 #[.pointer (some ⟨b, o, none⟩), .pointer (some ⟨tb, 0, none⟩), .pointer (some ⟨tf, 0, none⟩)] w _
      go_enter Try.func40, Try.ntmps40
      go_upto_region 1 with fail
      refine wp_region_held_drew (S := (fun W => Cs [(⟨b, o + 1, none⟩, .int .i64 a.bal), (⟨b, o + 2, none⟩, .int .i64 a.seq), (⟨tb, 0, none⟩, .int .i64 s), (⟨tf, 0, none⟩, .int .i64 f)] W)) (by kernel_rfl) hS1.out (fun hSK => ?_)
      refine take_d (some 6) (i := 0) (v := ?_) rfl rfl (by kernel_rfl) (by kernel_rfl) (by kernel_rfl) (fun _ _ _ h => h) (Or.inl ⟨by rfl, ?_⟩) (by assumption) ?_
      rotate_left
      · intro w hSw; (dsimp only [Cs] at hSw); go_simp; (try with_reducible rfl)
      try simp only [Act.put, List.setIfInBounds_toArray, List.set_cons_zero, List.set_cons_succ]
      refine take_d (some 7) (i := 1) (v := ?_) rfl rfl (by kernel_rfl) (by kernel_rfl) (by kernel_rfl) (fun _ _ _ h => h) (Or.inl ⟨by rfl, ?_⟩) (by assumption) ?_
      rotate_left
      · intro w hSw; (dsimp only [Cs] at hSw); go_simp; (try with_reducible rfl)
      try simp only [Act.put, List.setIfInBounds_toArray, List.set_cons_zero, List.set_cons_succ]
      refine take_d (some 8) (i := 2) (v := ?_) rfl rfl (by kernel_rfl) (by kernel_rfl) (by kernel_rfl) (fun _ _ _ h => h) (Or.inl ⟨by rfl, ?_⟩) (by assumption) ?_
      rotate_left
      · intro w hSw; (dsimp only [Cs] at hSw); go_simp; (try with_reducible rfl)
      try simp only [Act.put, List.setIfInBounds_toArray, List.set_cons_zero, List.set_cons_succ]
      refine take_d (some 9) (i := 3) (v := ?_) rfl rfl (by kernel_rfl) (by kernel_rfl) (by kernel_rfl) (fun _ _ _ h => h) (Or.inl ⟨by rfl, ?_⟩) (by assumption) ?_
      rotate_left
      · intro w hSw; (dsimp only [Cs] at hSw); go_simp; (try with_reducible rfl)
      try simp only [Act.put, List.setIfInBounds_toArray, List.set_cons_zero, List.set_cons_succ]
      refine take_d (some 10) (i := 4) (v := ?_) rfl rfl (by kernel_rfl) (by kernel_rfl) (by kernel_rfl) (fun _ _ _ h => h) (Or.inl ⟨by rfl, ?_⟩) (by assumption) ?_
      rotate_left
      · intro w hSw; (dsimp only [Cs] at hSw); go_simp; (try with_reducible rfl)
      try simp only [Act.put, List.setIfInBounds_toArray, List.set_cons_zero, List.set_cons_succ]
      refine take_d (some 11) (i := 5) (v := ?_) rfl rfl (by kernel_rfl) (by kernel_rfl) (by kernel_rfl) (fun _ _ _ h => h) (Or.inl ⟨by rfl, ?_⟩) (by assumption) ?_
      rotate_left
      · intro w hSw; (dsimp only [Cs] at hSw); go_simp; (try with_reducible rfl)
      try simp only [Act.put, List.setIfInBounds_toArray, List.set_cons_zero, List.set_cons_succ]
      refine take_d (some 12) (i := 6) (v := ?_) rfl rfl (by kernel_rfl) (by kernel_rfl) (by kernel_rfl) (fun _ _ _ h => h) (Or.inl ⟨by rfl, ?_⟩) (by assumption) ?_
      rotate_left
      · intro w hSw; (dsimp only [Cs] at hSw); go_simp; (try with_reducible rfl)
      try simp only [Act.put, List.setIfInBounds_toArray, List.set_cons_zero, List.set_cons_succ]
      refine take_d (some 13) (i := 7) (v := ?_) rfl rfl (by kernel_rfl) (by kernel_rfl) (by kernel_rfl) (fun _ _ _ h => h) (Or.inl ⟨by rfl, ?_⟩) (by assumption) ?_
      rotate_left
      · intro w hSw; (dsimp only [Cs] at hSw); go_simp; (try with_reducible rfl)
      try simp only [Act.put, List.setIfInBounds_toArray, List.set_cons_zero, List.set_cons_succ]
      refine take_d (some 14) (i := 8) (v := ?_) rfl rfl (by kernel_rfl) (by kernel_rfl) (by kernel_rfl) (fun _ _ _ h => h) (Or.inl ⟨by rfl, ?_⟩) (by assumption) ?_
      rotate_left
      · intro w hSw; (dsimp only [Cs] at hSw); go_simp; (try with_reducible rfl)
      try simp only [Act.put, List.setIfInBounds_toArray, List.set_cons_zero, List.set_cons_succ]
      refine take_d (some 15) (i := 9) (v := ?_) rfl rfl (by kernel_rfl) (by kernel_rfl) (by kernel_rfl) (fun _ _ _ h => h) (Or.inl ⟨by rfl, ?_⟩) (by assumption) ?_
      rotate_left
      · intro w hSw; (dsimp only [Cs] at hSw); go_simp; (try with_reducible rfl)
      try simp only [Act.put, List.setIfInBounds_toArray, List.set_cons_zero, List.set_cons_succ]
      refine take_d (some 16) (i := 10) (v := ?_) rfl rfl (by kernel_rfl) (by kernel_rfl) (by kernel_rfl) (fun _ _ _ h => h) (Or.inl ⟨by rfl, ?_⟩) (by assumption) ?_
      rotate_left
      · intro w hSw; (dsimp only [Cs] at hSw); go_simp; (try with_reducible rfl)
      try simp only [Act.put, List.setIfInBounds_toArray, List.set_cons_zero, List.set_cons_succ]
      refine take_d (some 5) (i := 11) (v := ?_) rfl rfl (by kernel_rfl) (by kernel_rfl) (by kernel_rfl) (fun _ _ _ h => h) (Or.inl ⟨by rfl, ?_⟩) (by assumption) ?_
      rotate_left
      · intro w hSw; (dsimp only [Cs] at hSw); go_simp; (try with_reducible rfl)
      try simp only [Act.put, List.setIfInBounds_toArray, List.set_cons_zero, List.set_cons_succ]
      refine wpAnyH_done (by kernel_rfl) ?_ _
      clear hSK
      go_upto_region 5 with fail
      clear z1 z2 z3 z4
      refine wp_region_held_drew (S := (fun W => Cs [(⟨b, o + 1, none⟩, .int .i64 a.bal), (⟨b, o + 2, none⟩, .int .i64 a.seq), (⟨tb, 0, none⟩, .int .i64 s), (⟨tf, 0, none⟩, .int .i64 f)] W)) (by kernel_rfl) hS2.out (fun hSK => ?_)
      refine take_d (some 25) (i := 0) (v := ?_) rfl rfl (by kernel_rfl) (by kernel_rfl) (by kernel_rfl) (fun _ _ _ h => h) (Or.inl ⟨by rfl, ?_⟩) (by assumption) ?_
      rotate_left
      · intro w hSw; (dsimp only [Cs] at hSw); go_simp; (try with_reducible rfl)
      try simp only [Act.put, List.setIfInBounds_toArray, List.set_cons_zero, List.set_cons_succ]
      refine take_d (some 26) (i := 1) (v := ?_) rfl rfl (by kernel_rfl) (by kernel_rfl) (by kernel_rfl) (fun _ _ _ h => h) (Or.inl ⟨by rfl, ?_⟩) (by assumption) ?_
      rotate_left
      · intro w hSw; (dsimp only [Cs] at hSw); go_simp; (try with_reducible rfl)
      try simp only [Act.put, List.setIfInBounds_toArray, List.set_cons_zero, List.set_cons_succ]
      refine take_d (some 27) (i := 2) (v := ?_) rfl rfl (by kernel_rfl) (by kernel_rfl) (by kernel_rfl) (fun _ _ _ h => h) (Or.inl ⟨by rfl, ?_⟩) (by assumption) ?_
      rotate_left
      · intro w hSw; (dsimp only [Cs] at hSw); go_simp; (try with_reducible rfl)
      try simp only [Act.put, List.setIfInBounds_toArray, List.set_cons_zero, List.set_cons_succ]
      refine take_d (some 28) (i := 3) (v := ?_) rfl rfl (by kernel_rfl) (by kernel_rfl) (by kernel_rfl) (fun _ _ _ h => h) (Or.inl ⟨by rfl, ?_⟩) (by assumption) ?_
      rotate_left
      · intro w hSw; (dsimp only [Cs] at hSw); go_simp; (try with_reducible rfl)
      try simp only [Act.put, List.setIfInBounds_toArray, List.set_cons_zero, List.set_cons_succ]
      refine take_d (some 29) (i := 4) (v := ?_) rfl rfl (by kernel_rfl) (by kernel_rfl) (by kernel_rfl) (fun _ _ _ h => h) (Or.inl ⟨by rfl, ?_⟩) (by assumption) ?_
      rotate_left
      · intro w hSw; (dsimp only [Cs] at hSw); go_simp; (try with_reducible rfl)
      try simp only [Act.put, List.setIfInBounds_toArray, List.set_cons_zero, List.set_cons_succ]
      refine take_d (some 30) (i := 5) (v := ?_) rfl rfl (by kernel_rfl) (by kernel_rfl) (by kernel_rfl) (fun _ _ _ h => h) (Or.inl ⟨by rfl, ?_⟩) (by assumption) ?_
      rotate_left
      · intro w hSw; (dsimp only [Cs] at hSw); go_simp; (try with_reducible rfl)
      try simp only [Act.put, List.setIfInBounds_toArray, List.set_cons_zero, List.set_cons_succ]
      refine take_d (some 24) (i := 6) (v := ?_) rfl rfl (by kernel_rfl) (by kernel_rfl) (by kernel_rfl) (fun _ _ _ h => h) (Or.inl ⟨by rfl, ?_⟩) (by assumption) ?_
      rotate_left
      · intro w hSw; (dsimp only [Cs] at hSw); go_simp; (try with_reducible rfl)
      try simp only [Act.put, List.setIfInBounds_toArray, List.set_cons_zero, List.set_cons_succ]
      refine wpAnyH_done (by kernel_rfl) ?_ _
      clear hSK
      go_wp2_with fail
      go_ret
      exact ⟨by rw [HE.out]; rfl, grown_below (bdrew (bdrew (bref _))), fun q hq => rfl, fun h => by rw [HE.out] at h; cases h⟩
    · have HE := Lib.hid (show beginE s f a = 0 by unfold beginE; rw [if_neg HN.out, if_neg (by omega), if_neg (by omega)])
      have q2 : decide (f < 1) = false := decide_eq_false (by omega)
      have q3 : decide (100000 < f) = false := decide_eq_false (by omega)
      have q4 : decide (a.bal < f) = false := decide_eq_false (by omega)
      have q5 : IntKind.i64.wrap (a.bal - f) = a.bal - f := IntWalk.i64_in _ (by omega)
      clear h2
      obtain ⟨z1, z2, z3, z4, _⟩ := hS1.out
      show Calls Try.prog 40 #[.pointer (some ⟨b, o, none⟩), .pointer (some ⟨tb, 0, none⟩), .pointer (some ⟨tf, 0, none⟩)] w _
      go_enter Try.func40, Try.ntmps40
      go_upto_region 1 with fail
      refine wp_region_held_drew (S := (fun W => Cs [(⟨b, o + 1, none⟩, .int .i64 a.bal), (⟨b, o + 2, none⟩, .int .i64 a.seq), (⟨tb, 0, none⟩, .int .i64 s), (⟨tf, 0, none⟩, .int .i64 f)] W)) (by kernel_rfl) hS1.out (fun hSK => ?_)
      refine take_d (some 6) (i := 0) (v := ?_) rfl rfl (by kernel_rfl) (by kernel_rfl) (by kernel_rfl) (fun _ _ _ h => h) (Or.inl ⟨by rfl, ?_⟩) (by assumption) ?_
      rotate_left
      · intro w hSw; (dsimp only [Cs] at hSw); go_simp; (try with_reducible rfl)
      try simp only [Act.put, List.setIfInBounds_toArray, List.set_cons_zero, List.set_cons_succ]
      refine take_d (some 7) (i := 1) (v := ?_) rfl rfl (by kernel_rfl) (by kernel_rfl) (by kernel_rfl) (fun _ _ _ h => h) (Or.inl ⟨by rfl, ?_⟩) (by assumption) ?_
      rotate_left
      · intro w hSw; (dsimp only [Cs] at hSw); go_simp; (try with_reducible rfl)
      try simp only [Act.put, List.setIfInBounds_toArray, List.set_cons_zero, List.set_cons_succ]
      refine take_d (some 8) (i := 2) (v := ?_) rfl rfl (by kernel_rfl) (by kernel_rfl) (by kernel_rfl) (fun _ _ _ h => h) (Or.inl ⟨by rfl, ?_⟩) (by assumption) ?_
      rotate_left
      · intro w hSw; (dsimp only [Cs] at hSw); go_simp; (try with_reducible rfl)
      try simp only [Act.put, List.setIfInBounds_toArray, List.set_cons_zero, List.set_cons_succ]
      refine take_d (some 9) (i := 3) (v := ?_) rfl rfl (by kernel_rfl) (by kernel_rfl) (by kernel_rfl) (fun _ _ _ h => h) (Or.inl ⟨by rfl, ?_⟩) (by assumption) ?_
      rotate_left
      · intro w hSw; (dsimp only [Cs] at hSw); go_simp; (try with_reducible rfl)
      try simp only [Act.put, List.setIfInBounds_toArray, List.set_cons_zero, List.set_cons_succ]
      refine take_d (some 10) (i := 4) (v := ?_) rfl rfl (by kernel_rfl) (by kernel_rfl) (by kernel_rfl) (fun _ _ _ h => h) (Or.inl ⟨by rfl, ?_⟩) (by assumption) ?_
      rotate_left
      · intro w hSw; (dsimp only [Cs] at hSw); go_simp; (try with_reducible rfl)
      try simp only [Act.put, List.setIfInBounds_toArray, List.set_cons_zero, List.set_cons_succ]
      refine take_d (some 11) (i := 5) (v := ?_) rfl rfl (by kernel_rfl) (by kernel_rfl) (by kernel_rfl) (fun _ _ _ h => h) (Or.inl ⟨by rfl, ?_⟩) (by assumption) ?_
      rotate_left
      · intro w hSw; (dsimp only [Cs] at hSw); go_simp; (try with_reducible rfl)
      try simp only [Act.put, List.setIfInBounds_toArray, List.set_cons_zero, List.set_cons_succ]
      refine take_d (some 12) (i := 6) (v := ?_) rfl rfl (by kernel_rfl) (by kernel_rfl) (by kernel_rfl) (fun _ _ _ h => h) (Or.inl ⟨by rfl, ?_⟩) (by assumption) ?_
      rotate_left
      · intro w hSw; (dsimp only [Cs] at hSw); go_simp; (try with_reducible rfl)
      try simp only [Act.put, List.setIfInBounds_toArray, List.set_cons_zero, List.set_cons_succ]
      refine take_d (some 13) (i := 7) (v := ?_) rfl rfl (by kernel_rfl) (by kernel_rfl) (by kernel_rfl) (fun _ _ _ h => h) (Or.inl ⟨by rfl, ?_⟩) (by assumption) ?_
      rotate_left
      · intro w hSw; (dsimp only [Cs] at hSw); go_simp; (try with_reducible rfl)
      try simp only [Act.put, List.setIfInBounds_toArray, List.set_cons_zero, List.set_cons_succ]
      refine take_d (some 14) (i := 8) (v := ?_) rfl rfl (by kernel_rfl) (by kernel_rfl) (by kernel_rfl) (fun _ _ _ h => h) (Or.inl ⟨by rfl, ?_⟩) (by assumption) ?_
      rotate_left
      · intro w hSw; (dsimp only [Cs] at hSw); go_simp; (try with_reducible rfl)
      try simp only [Act.put, List.setIfInBounds_toArray, List.set_cons_zero, List.set_cons_succ]
      refine take_d (some 15) (i := 9) (v := ?_) rfl rfl (by kernel_rfl) (by kernel_rfl) (by kernel_rfl) (fun _ _ _ h => h) (Or.inl ⟨by rfl, ?_⟩) (by assumption) ?_
      rotate_left
      · intro w hSw; (dsimp only [Cs] at hSw); go_simp; (try with_reducible rfl)
      try simp only [Act.put, List.setIfInBounds_toArray, List.set_cons_zero, List.set_cons_succ]
      refine take_d (some 16) (i := 10) (v := ?_) rfl rfl (by kernel_rfl) (by kernel_rfl) (by kernel_rfl) (fun _ _ _ h => h) (Or.inl ⟨by rfl, ?_⟩) (by assumption) ?_
      rotate_left
      · intro w hSw; (dsimp only [Cs] at hSw); go_simp; (try with_reducible rfl)
      try simp only [Act.put, List.setIfInBounds_toArray, List.set_cons_zero, List.set_cons_succ]
      refine take_d (some 5) (i := 11) (v := ?_) rfl rfl (by kernel_rfl) (by kernel_rfl) (by kernel_rfl) (fun _ _ _ h => h) (Or.inl ⟨by rfl, ?_⟩) (by assumption) ?_
      rotate_left
      · intro w hSw; (dsimp only [Cs] at hSw); go_simp; (try with_reducible rfl)
      try simp only [Act.put, List.setIfInBounds_toArray, List.set_cons_zero, List.set_cons_succ]
      refine wpAnyH_done (by kernel_rfl) ?_ _
      clear hSK
      go_upto_region 5 with fail
      clear z1 z2 z3 z4
      refine wp_region_held_drew (S := (fun W => Cs [(⟨b, o + 1, none⟩, .int .i64 a.bal), (⟨b, o + 2, none⟩, .int .i64 a.seq), (⟨tb, 0, none⟩, .int .i64 s), (⟨tf, 0, none⟩, .int .i64 f)] W)) (by kernel_rfl) hS2.out (fun hSK => ?_)
      refine take_d (some 25) (i := 0) (v := ?_) rfl rfl (by kernel_rfl) (by kernel_rfl) (by kernel_rfl) (fun _ _ _ h => h) (Or.inl ⟨by rfl, ?_⟩) (by assumption) ?_
      rotate_left
      · intro w hSw; (dsimp only [Cs] at hSw); go_simp; (try with_reducible rfl)
      try simp only [Act.put, List.setIfInBounds_toArray, List.set_cons_zero, List.set_cons_succ]
      refine take_d (some 26) (i := 1) (v := ?_) rfl rfl (by kernel_rfl) (by kernel_rfl) (by kernel_rfl) (fun _ _ _ h => h) (Or.inl ⟨by rfl, ?_⟩) (by assumption) ?_
      rotate_left
      · intro w hSw; (dsimp only [Cs] at hSw); go_simp; (try with_reducible rfl)
      try simp only [Act.put, List.setIfInBounds_toArray, List.set_cons_zero, List.set_cons_succ]
      refine take_d (some 27) (i := 2) (v := ?_) rfl rfl (by kernel_rfl) (by kernel_rfl) (by kernel_rfl) (fun _ _ _ h => h) (Or.inl ⟨by rfl, ?_⟩) (by assumption) ?_
      rotate_left
      · intro w hSw; (dsimp only [Cs] at hSw); go_simp; (try with_reducible rfl)
      try simp only [Act.put, List.setIfInBounds_toArray, List.set_cons_zero, List.set_cons_succ]
      refine take_d (some 28) (i := 3) (v := ?_) rfl rfl (by kernel_rfl) (by kernel_rfl) (by kernel_rfl) (fun _ _ _ h => h) (Or.inl ⟨by rfl, ?_⟩) (by assumption) ?_
      rotate_left
      · intro w hSw; (dsimp only [Cs] at hSw); go_simp; (try with_reducible rfl)
      try simp only [Act.put, List.setIfInBounds_toArray, List.set_cons_zero, List.set_cons_succ]
      refine take_d (some 29) (i := 4) (v := ?_) rfl rfl (by kernel_rfl) (by kernel_rfl) (by kernel_rfl) (fun _ _ _ h => h) (Or.inl ⟨by rfl, ?_⟩) (by assumption) ?_
      rotate_left
      · intro w hSw; (dsimp only [Cs] at hSw); go_simp; (try with_reducible rfl)
      try simp only [Act.put, List.setIfInBounds_toArray, List.set_cons_zero, List.set_cons_succ]
      refine take_d (some 30) (i := 5) (v := ?_) rfl rfl (by kernel_rfl) (by kernel_rfl) (by kernel_rfl) (fun _ _ _ h => h) (Or.inl ⟨by rfl, ?_⟩) (by assumption) ?_
      rotate_left
      · intro w hSw; (dsimp only [Cs] at hSw); go_simp; (try with_reducible rfl)
      try simp only [Act.put, List.setIfInBounds_toArray, List.set_cons_zero, List.set_cons_succ]
      refine take_d (some 24) (i := 6) (v := ?_) rfl rfl (by kernel_rfl) (by kernel_rfl) (by kernel_rfl) (fun _ _ _ h => h) (Or.inl ⟨by rfl, ?_⟩) (by assumption) ?_
      rotate_left
      · intro w hSw; (dsimp only [Cs] at hSw); go_simp; (try with_reducible rfl)
      try simp only [Act.put, List.setIfInBounds_toArray, List.set_cons_zero, List.set_cons_succ]
      refine wpAnyH_done (by kernel_rfl) ?_ _
      clear hSK
      go_upto_region 7 with fail
      refine region_f (fun W => Cs [(⟨b, o + 1, none⟩, .int .i64 a.bal), (⟨tb, 0, none⟩, .int .i64 s), (⟨tf, 0, none⟩, .int .i64 f)] W) [14] (by kernel_rfl) ?_
      have hSK := (show Cs [(⟨b, o + 1, none⟩, .int .i64 a.bal), (⟨tb, 0, none⟩, .int .i64 s), (⟨tf, 0, none⟩, .int .i64 f)] w.drew.drew.drew from ⟨hS3.out.1, hS3.out.2.2.1, hS3.out.2.2.2.1, trivial⟩)
      have z2 := hS3.out.2.1
      refine take_y (some 31) (i := 0) (v := ?_) rfl rfl (by kernel_rfl) (by kernel_rfl) (by kernel_rfl) (fun _ _ _ h => h) (Or.inl ⟨by rfl, ?_⟩) ?_
      rotate_left
      · intro w _; go_simp; (try with_reducible rfl)
      try simp only [Act.put, List.setIfInBounds_toArray, List.set_cons_zero, List.set_cons_succ]
      refine take_y (some 32) (i := 1) (v := ?_) rfl rfl (by kernel_rfl) (by kernel_rfl) (by kernel_rfl) (fun _ _ _ h => h) (Or.inl ⟨by rfl, ?_⟩) ?_
      rotate_left
      · intro w _; go_simp; (try with_reducible rfl)
      try simp only [Act.put, List.setIfInBounds_toArray, List.set_cons_zero, List.set_cons_succ]
      refine take_f (some 33) [9, 10, 11, 12, 13, 14] (i := 2) (v := ?_) rfl rfl (by kernel_rfl) (by kernel_rfl) (by kernel_rfl) (by kernel_rfl) (fun _ _ _ h => h) (Or.inl ⟨by rfl, ?_⟩) (by assumption) ?_
      rotate_left
      · intro w hSw; (dsimp only [Cs] at hSw); go_simp; (try with_reducible rfl)
      try simp only [Act.put, List.setIfInBounds_toArray, List.set_cons_zero, List.set_cons_succ]
      refine take_y (some 34) (i := 3) (v := ?_) rfl rfl (by kernel_rfl) (by kernel_rfl) (by kernel_rfl) (fun _ _ _ h => h) (Or.inl ⟨by rfl, ?_⟩) ?_
      rotate_left
      · intro w _; go_simp; (try with_reducible rfl)
      try simp only [Act.put, List.setIfInBounds_toArray, List.set_cons_zero, List.set_cons_succ]
      refine take_y (some 35) (i := 4) (v := ?_) rfl rfl (by kernel_rfl) (by kernel_rfl) (by kernel_rfl) (fun _ _ _ h => h) (Or.inl ⟨by rfl, ?_⟩) ?_
      rotate_left
      · intro w _; go_simp; (try with_reducible rfl)
      try simp only [Act.put, List.setIfInBounds_toArray, List.set_cons_zero, List.set_cons_succ]
      refine take_y (some 36) (i := 5) (v := ?_) rfl rfl (by kernel_rfl) (by kernel_rfl) (by kernel_rfl) (fun _ _ _ h => h) (Or.inl ⟨by rfl, ?_⟩) ?_
      rotate_left
      · intro w _; go_simp; (try with_reducible rfl)
      try simp only [Act.put, List.setIfInBounds_toArray, List.set_cons_zero, List.set_cons_succ]
      refine take_f (some 37) [8, 9, 10, 11, 12, 13, 14] (i := 6) (v := ?_) rfl rfl (by kernel_rfl) (by kernel_rfl) (by kernel_rfl) (by kernel_rfl) (fun _ _ _ h => h) (Or.inl ⟨by rfl, ?_⟩) (by assumption) ?_
      rotate_left
      · intro w hSw; (dsimp only [Cs] at hSw); go_simp; (try with_reducible rfl)
      try simp only [Act.put, List.setIfInBounds_toArray, List.set_cons_zero, List.set_cons_succ]
      refine take_f (some 38) [8, 12, 13, 14] (i := 7) (v := ?_) rfl rfl (by kernel_rfl) (by kernel_rfl) (by kernel_rfl) (by kernel_rfl) (fun _ _ _ h => h) (Or.inl ⟨by rfl, ?_⟩) (by assumption) ?_
      rotate_left
      · intro w hSw; (dsimp only [Cs] at hSw); go_simp; (try with_reducible rfl)
      try simp only [Act.put, List.setIfInBounds_toArray, List.set_cons_zero, List.set_cons_succ]
      refine take_y (some 39) (i := 8) (v := ?_) rfl rfl (by kernel_rfl) (by kernel_rfl) (by kernel_rfl) (fun _ _ _ h => h) (Or.inl ⟨by rfl, ?_⟩) ?_
      rotate_left
      · intro w _; go_simp; (try with_reducible rfl)
      try simp only [Act.put, List.setIfInBounds_toArray, List.set_cons_zero, List.set_cons_succ]
      refine take_y (some 40) (i := 9) (v := ?_) rfl rfl (by kernel_rfl) (by kernel_rfl) (by kernel_rfl) (fun _ _ _ h => h) (Or.inl ⟨by rfl, ?_⟩) ?_
      rotate_left
      · intro w _; go_simp; (try with_reducible rfl)
      try simp only [Act.put, List.setIfInBounds_toArray, List.set_cons_zero, List.set_cons_succ]
      refine take_y (some 41) (i := 10) (v := ?_) rfl rfl (by kernel_rfl) (by kernel_rfl) (by kernel_rfl) (fun _ _ _ h => h) (Or.inl ⟨by rfl, ?_⟩) ?_
      rotate_left
      · intro w _; go_simp; (try with_reducible rfl)
      try simp only [Act.put, List.setIfInBounds_toArray, List.set_cons_zero, List.set_cons_succ]
      refine one_f (i := 11) (by kernel_rfl) rfl (fun K hK => ?_)
      obtain ⟨z1, z3, z4, _⟩ := id hSK
      have zf1 : w.drew.drew.drew.frozen? ⟨b, o + 1, none⟩ = false := HFZ.out (o + 1)
      have zf2 : w.drew.drew.drew.frozen? ⟨b, o + 2, none⟩ = false := HFZ.out (o + 2)
      go_simp
      replace hSK := (show Cs [(⟨b, o + 1, none⟩, .int .i64 a.bal), (⟨tb, 0, none⟩, .int .i64 s), (⟨tf, 0, none⟩, .int .i64 f)] (w.setCell ⟨b, o + 2, none⟩ (.int .i64 s)).drew.drew.drew from ⟨(World.cell?_setCell_other _ _ _ _ (fun e => by first | (simp at e; omega) | simp at e)).trans z1, (World.cell?_setCell_other _ _ _ _ (fun e => by first | (simp at e; omega) | simp at e)).trans z3, (World.cell?_setCell_other _ _ _ _ (fun e => by first | (simp at e; omega) | simp at e)).trans z4, trivial⟩)
      refine hK.out _ _ (Or.inr (fun _ => hSK)) ?_
      clear hK K
      try simp only [Act.put, List.setIfInBounds_toArray, List.set_cons_zero, List.set_cons_succ]
      refine take_y (some 42) (i := 12) (v := ?_) rfl rfl (by kernel_rfl) (by kernel_rfl) (by kernel_rfl) (fun _ _ _ h => h) (Or.inl ⟨by rfl, ?_⟩) ?_
      rotate_left
      · intro w _; go_simp; (try with_reducible rfl)
      try simp only [Act.put, List.setIfInBounds_toArray, List.set_cons_zero, List.set_cons_succ]
      refine take_y (some 43) (i := 13) (v := ?_) rfl rfl (by kernel_rfl) (by kernel_rfl) (by kernel_rfl) (fun _ _ _ h => h) (Or.inl ⟨by rfl, ?_⟩) ?_
      rotate_left
      · intro w _; go_simp; (try with_reducible rfl)
      try simp only [Act.put, List.setIfInBounds_toArray, List.set_cons_zero, List.set_cons_succ]
      refine one_f (i := 14) (by kernel_rfl) rfl (fun K hK => ?_)
      have y1 : (w.setCell ⟨b, o + 2, none⟩ (.int .i64 s)).cell? ⟨b, o + 1, none⟩ = some (.int .i64 a.bal) := hSK.1
      have y2 : (w.setCell ⟨b, o + 2, none⟩ (.int .i64 s)).frozen? ⟨b, o + 1, none⟩ = false := (frozen_setS _ _ _ _).trans (HFZ.out (o + 1))
      go_simp
      refine hK.out _ _ (Or.inl (by kernel_rfl)) ?_
      clear hK K
      try simp only [Act.put, List.setIfInBounds_toArray, List.set_cons_zero, List.set_cons_succ]
      refine done_f (by kernel_rfl) ?_ _
      have HG := Lib.hid (show w.grownBy ((w.drew.drew.drew.setCell ⟨b, o + 2, none⟩ (.int .i64 s)).setCell ⟨b, o + 1, none⟩ (.int .i64 (a.bal - f))) (some b) from ⟨rfl, rfl, rfl, by simp [World.setCell], fun k hk hn => (Below.heap_setCell _ _ _ _ (fun e => hn (congrArg some e))).trans (Below.heap_setCell _ _ _ _ (fun e => hn (congrArg some e)))⟩)
      have HO := Lib.hid (show ∀ q, (q < o ∨ o + 3 ≤ q) → ((w.drew.drew.drew.setCell ⟨b, o + 2, none⟩ (.int .i64 s)).setCell ⟨b, o + 1, none⟩ (.int .i64 (a.bal - f))).cell? ⟨b, q, none⟩ = w.cell? ⟨b, q, none⟩ from fun q hq => (World.cell?_setCell_other _ _ _ _ (fun e => by first | (simp at e; omega) | simp at e)).trans (World.cell?_setCell_other _ _ _ _ (fun e => by first | (simp at e; omega) | simp at e)))
      have HIN := Lib.hid (show Cs [(⟨b, o, none⟩, .int .i64 a.id), (⟨b, o + 1, none⟩, .int .i64 (a.bal - f)), (⟨b, o + 2, none⟩, .int .i64 s)] ((w.drew.drew.drew.setCell ⟨b, o + 2, none⟩ (.int .i64 s)).setCell ⟨b, o + 1, none⟩ (.int .i64 (a.bal - f))) from by
        obtain ⟨k0, k1, k2, _⟩ := HC.out
        exact ⟨(World.cell?_setCell_other _ _ _ _ (fun e => by simp at e)).trans ((World.cell?_setCell_other _ _ _ _ (fun e => by simp at e)).trans k0), World.cell?_setCell_same _ _ _ ((World.cell?_setCell_other _ _ _ _ (fun e => by simp at e)).trans k1), (World.cell?_setCell_other _ _ _ _ (fun e => by simp at e)).trans (World.cell?_setCell_same _ _ _ k2), trivial⟩)
      clear hSK z1 z2 z3 z4 zf1 zf2
      go_wp2_with fail
      go_ret
      exact ⟨by rw [HE.out]; rfl, HG.out, HO.out, fun _ => HIN.out⟩

end Go.Proofs.Ytfmdnhhdjjndbaa
