/- The contract of trustquorummake.most: a trust in most of the nodes. -/
import Derived.Test.YtfghnkgllmofgaaMake
import Derived.Test.YtfghnkgllmofgaaDual
import Derived.Test.YtfghnkgllmofgaaConf
import Derived.Deep.CutRange
import Derived.Deep.RegionLaw
import Derived.Deep.RegionHeld3
namespace Go.Proofs.Ytfghnkgllmofgaa
set_option linter.unusedVariables false
set_option linter.unusedSimpArgs false
open Go.RowKit

theorem list_snoc {w : World} {v : Value} {n B : Nat} {gs : List Int} {x : Int} (h : w.ownsRow B 3 1 v n (gs.map (Value.int .i64) ++ [.int .i64 x])) : w.ownsRow B 3 1 v n ((gs ++ [x]).map (Value.int .i64)) := by
  rw [List.map_append]; exact h

theorem asc_snoc {ns : List Int} {k : Nat} (h1 : ns.Nodup) (h2 : ∀ x ∈ ns, 0 ≤ x ∧ x < (k : Int)) : (ns ++ [(k : Int)]).Nodup ∧ ∀ x ∈ ns ++ [(k : Int)], 0 ≤ x ∧ x < ((k + 1 : Nat) : Int) := by
  constructor
  · rw [List.nodup_append]
    refine ⟨h1, by simp, fun a ha b hb => ?_⟩
    rw [List.mem_singleton] at hb
    have := h2 a ha
    omega
  · intro x hx
    rcases List.mem_append.1 hx with h | h
    · have := h2 x h; omega
    · rw [List.mem_singleton] at h; omega

/-- The world of most in front of its threshold. -/
structure MostAt (w W : World) (g sb B m : Nat) (A : Option Addr) (n c : Nat) (ns : List Int) : Prop where
  len : ns.length = n
  pos : 1 ≤ n
  ten : n ≤ 10
  nodes : NodesAt (fun b => B ≤ b) W (.slice A ns.length c) ns
  asc : ns.Nodup ∧ ∀ x ∈ ns, 0 ≤ x ∧ x < (m : Int)
  out : OutAt W (g + 1) 0 (.slice A n c) (.slice none 0 0)
  res : OutAt W g 0 (.slice none 0 0) (.slice none 0 0)
  tape : TapeOk W sb
  grown : w.grownBy W (some sb)
  size : B ≤ W.heap.size

theorem NodesAt.both' {P : Nat → Prop} {w w' : World} {v : Value} {ns : List Int} (h : NodesAt P w v ns) (hk : ∀ k, k < w.heap.size → P k → w'.heap[k]? = w.heap[k]?) : NodesAt P w' v ns := by
  obtain ⟨A, c, h1, h2⟩ := h
  refine ⟨A, c, h1, fun k hk' => ?_⟩
  obtain ⟨b, off, e1, e2, e3⟩ := h2 k hk'
  exact ⟨b, off, e1, e2, (World.cell?_of_block (hk _ (cell_lt e3) e2)).trans e3⟩

theorem NodesAt.below' {P : Nat → Prop} {w w' : World} {v : Value} {ns : List Int} (h : NodesAt P w v ns) (hb : Below w.heap.size w w') : NodesAt P w' v ns := h.both' (fun k hk _ => hb.block k hk)

/-- What the region of the threshold keeps. -/
def MX (w : World) (g sb B : Nat) (A : Option Addr) (n c : Nat) (ns : List Int) (W : World) : Prop :=
  (∃ y, OutAt W (g + 1) y (.slice A n c) (.slice none 0 0)) ∧ OutAt W g 0 (.slice none 0 0) (.slice none 0 0) ∧ TapeOk W sb ∧ w.grownBy W (some sb) ∧ NodesAt (fun b => B ≤ b) W (.slice A n c) ns ∧ B ≤ W.heap.size

theorem MX.below {w W W' : World} {g sb B n c : Nat} {A : Option Addr} {ns : List Int} (h : MX w g sb B A n c ns W) (hb : Below W.heap.size W W') : MX w g sb B A n c ns W' := by
  obtain ⟨⟨y, h1⟩, h2, h3, h4, h5, h6⟩ := h
  exact ⟨⟨y, h1.keep (hb.block _ h1.lt)⟩, h2.keep (hb.block _ h2.lt), h3.below hb, grown_trans h4 (grown_below hb), NodesAt.below' h5 hb, Nat.le_trans h6 hb.size⟩

theorem MX.grown {w W W' : World} {g sb B n c : Nat} {A : Option Addr} {ns : List Int} (h : MX w g sb B A n c ns W) (hs : TapeOk W' sb) (hg : W.grownBy W' (some sb)) (h0 : sb < g) (h1 : sb < B) : MX w g sb B A n c ns W' := by
  obtain ⟨⟨y, k1⟩, h2, h3, h4, h5, h6⟩ := h
  exact ⟨⟨y, k1.keep (hg.block _ k1.lt (by simp; omega))⟩, h2.keep (hg.block _ h2.lt (by simp; omega)), hs, grown_trans h4 hg, NodesAt.both' h5 (fun q hq hP => hg.block q hq (by simp; omega)), Nat.le_trans h6 hg.size⟩

theorem MX.set {w W : World} {g sb B n c : Nat} {A : Option Addr} {ns : List Int} (h : MX w g sb B A n c ns W) (hg : w.heap.size = g) (h0 : sb < g) (h1 : g + 2 ≤ B) (x : Int) : MX w g sb B A n c ns (W.setCell ⟨g + 1, 0, none⟩ (.int .i64 x)) := by
  obtain ⟨⟨y, k1⟩, h2, h3, h4, h5, h6⟩ := h
  have far : ∀ q, q ≠ g + 1 → (W.setCell ⟨g + 1, 0, none⟩ (.int .i64 x)).heap[q]? = W.heap[q]? := fun q hq => Below.heap_setCell _ _ _ _ (by simpa using hq)
  exact ⟨⟨x, k1.set0 x⟩, h2.keep (far g (by omega)), h3.setCell (p := ⟨g + 1, 0, none⟩) (by show sb < g + 1; omega) _, gset h4 (p := ⟨g + 1, 0, none⟩) (by show w.heap.size ≤ g + 1; omega) _, NodesAt.both' h5 (fun q _ hP => far q (by omega)), by simpa [World.setCell] using h6⟩

theorem keepMX {w W W' : World} {g sb B n c : Nat} {A : Option Addr} {ns : List Int} (h : W.cell? ⟨g + 1, 1, none⟩ = some (.slice A n c) ∧ MX w g sb B A n c ns W) (hb : Below W.heap.size W W') : W'.cell? ⟨g + 1, 1, none⟩ = some (.slice A n c) ∧ MX w g sb B A n c ns W' := by
  have k := h.2.below hb
  obtain ⟨⟨y, k1⟩, _⟩ := id k
  exact ⟨k1.cs.2.1, k⟩

theorem growMX {w W W' : World} {g sb B n c : Nat} {A : Option Addr} {ns : List Int} (h : W.cell? ⟨g + 1, 1, none⟩ = some (.slice A n c) ∧ MX w g sb B A n c ns W) (hs : TapeOk W' sb) (hg : W.grownBy W' (some sb)) (h0 : sb < g) (h1 : sb < B) : W'.cell? ⟨g + 1, 1, none⟩ = some (.slice A n c) ∧ MX w g sb B A n c ns W' := by
  have k := h.2.grown hs hg h0 h1
  obtain ⟨⟨y, k1⟩, _⟩ := id k
  exact ⟨k1.cs.2.1, k⟩

theorem setMX {w W : World} {g sb B n c : Nat} {A : Option Addr} {ns : List Int} (h : W.cell? ⟨g + 1, 1, none⟩ = some (.slice A n c) ∧ MX w g sb B A n c ns W) (hg : w.heap.size = g) (h0 : sb < g) (h1 : g + 2 ≤ B) (x : Int) : (W.setCell ⟨g + 1, 0, none⟩ (.int .i64 x)).cell? ⟨g + 1, 1, none⟩ = some (.slice A n c) ∧ MX w g sb B A n c ns (W.setCell ⟨g + 1, 0, none⟩ (.int .i64 x)) := by
  have k := h.2.set hg h0 h1 x
  obtain ⟨⟨y, k1⟩, _⟩ := id k
  exact ⟨k1.cs.2.1, k⟩

theorem most_end {w W : World} {g sb B n c m : Nat} {A : Option Addr} {ns : List Int} {t : Int} (hMX : MX w g sb B A n c ns W) (hg : w.heap.size = g) (h0 : sb < g) (hB : g + 2 ≤ B) (hl : ns.length = n) (hn : n ≤ 10) (ht : 1 ≤ t) (ht1 : t ≤ (n : Int)) (hasc : ns.Nodup ∧ ∀ x ∈ ns, 0 ≤ x ∧ x < (m : Int)) :
    TAt (fun b => w.heap.size ≤ b) 1 (((W.setCell ⟨g, 0, none⟩ (.int .i64 t)).setCell ⟨g, 1, none⟩ (.slice A n c)).setCell ⟨g, 2, none⟩ (.slice none 0 0)) (.int .i64 t) (.slice A n c) (.slice none 0 0) (.mk t ns []) ∧ WF m 1 (.mk t ns []) ∧
      TapeOk (((W.setCell ⟨g, 0, none⟩ (.int .i64 t)).setCell ⟨g, 1, none⟩ (.slice A n c)).setCell ⟨g, 2, none⟩ (.slice none 0 0)) sb ∧ w.grownBy (((W.setCell ⟨g, 0, none⟩ (.int .i64 t)).setCell ⟨g, 1, none⟩ (.slice A n c)).setCell ⟨g, 2, none⟩ (.slice none 0 0)) (some sb) := by
  obtain ⟨_, _, h3, h4, h5, _⟩ := hMX
  have far : ∀ q, q ≠ g → (((W.setCell ⟨g, 0, none⟩ (.int .i64 t)).setCell ⟨g, 1, none⟩ (.slice A n c)).setCell ⟨g, 2, none⟩ (.slice none 0 0)).heap[q]? = W.heap[q]? := fun q hq =>
    (Below.heap_setCell _ _ _ _ (by simpa using hq)).trans ((Below.heap_setCell _ _ _ _ (by simpa using hq)).trans (Below.heap_setCell _ _ _ _ (by simpa using hq)))
  refine ⟨?_, ⟨ht, by simp; omega, by omega, by simp, hasc.2, hasc.1, fun T hT => by simp at hT⟩, ?_, ?_⟩
  · obtain ⟨A', c', e1, e2⟩ := h5
    refine ⟨rfl, by omega, by simp, ⟨A', c', e1, fun k hk => ?_⟩, ⟨none, 0, rfl, fun k T hT => by simp at hT⟩⟩
    obtain ⟨b, off, f1, f2, f3⟩ := e2 k hk
    exact ⟨b, off, f1, by omega, (World.cell?_of_block (far b (by omega))).trans f3⟩
  · exact ((h3.setCell (p := ⟨g, 0, none⟩) (by show sb < g; omega) _).setCell (p := ⟨g, 1, none⟩) (by show sb < g; omega) _).setCell (p := ⟨g, 2, none⟩) (by show sb < g; omega) _
  · exact gset (gset (gset h4 (p := ⟨g, 0, none⟩) (by show w.heap.size ≤ g; omega) _) (p := ⟨g, 1, none⟩) (by show w.heap.size ≤ g; omega) _) (p := ⟨g, 2, none⟩) (by show w.heap.size ≤ g; omega) _

theorem most_thr (Q : Nat) (q : Int) (n : Nat) (h1 : 1 ≤ Q ∧ Q ≤ 7) (h2 : -1 ≤ q) (hn : 1 ≤ n) : 1 ≤ (if (if 1 < (Q : Int) + q then (Q : Int) + q else 1) < (n : Int) then if 1 < (Q : Int) + q then (Q : Int) + q else 1 else (n : Int)) ∧ (if (if 1 < (Q : Int) + q then (Q : Int) + q else 1) < (n : Int) then if 1 < (Q : Int) + q then (Q : Int) + q else 1 else (n : Int)) ≤ (n : Int) := by
  constructor <;> (repeat' split) <;> omega

theorem most_pick (j : Nat) (hj : j < 5) : ∃ q : Int, ([0, 0, 0, 1, -1] : List Int).getD j 0 = q ∧ -1 ≤ q ∧ q ≤ 1 := by
  match j, hj with
  | 0, _ => exact ⟨0, rfl, by omega, by omega⟩
  | 1, _ => exact ⟨0, rfl, by omega, by omega⟩
  | 2, _ => exact ⟨0, rfl, by omega, by omega⟩
  | 3, _ => exact ⟨1, rfl, by omega, by omega⟩
  | 4, _ => exact ⟨-1, rfl, by omega, by omega⟩

set_option maxRecDepth 100000 in
set_option maxHeartbeats 4000000 in
theorem most_run (sb m : Nat) (hm : 1 ≤ m) (hm1 : m ≤ 10) (w : World) (hs : TapeOk w sb) :
    Calls Try.prog 17 #[.pointer (some ⟨sb, 0, none⟩), .int .i64 m] w fun e w' => ∃ (v0 v1 v2 : Value) (T : Tree), e = .returned (.agg #[v0, v1, v2]) ∧ TAt (fun b => w.heap.size ≤ b) 1 w' v0 v1 v2 T ∧ WF m 1 T ∧ TapeOk w' sb ∧ w.grownBy w' (some sb) := by
  obtain ⟨i0, hin, hz0, hz1, hz2⟩ := info_parts infoInt
  have hsl := hs.lt
  have hb2 : Below w.heap.size w ((w.alloc (.cells #[.int .i64 0, .slice none 0 0, .slice none 0 0] 49)).alloc (.cells #[.int .i64 0, .slice none 0 0, .slice none 0 0] 49)) := balloc (balloc (bref w) _) _
  have k0 : OutAt ((w.alloc (.cells #[.int .i64 0, .slice none 0 0, .slice none 0 0] 49)).alloc (.cells #[.int .i64 0, .slice none 0 0, .slice none 0 0] 49)) w.heap.size 0 (.slice none 0 0) (.slice none 0 0) := alloc_on (alloc_at rfl)
  have k1 : OutAt ((w.alloc (.cells #[.int .i64 0, .slice none 0 0, .slice none 0 0] 49)).alloc (.cells #[.int .i64 0, .slice none 0 0, .slice none 0 0] 49)) (w.heap.size + 1) 0 (.slice none 0 0) (.slice none 0 0) := alloc_at (alloc_sz _ _)
  have hsz : ((w.alloc (.cells #[.int .i64 0, .slice none 0 0, .slice none 0 0] 49)).alloc (.cells #[.int .i64 0, .slice none 0 0, .slice none 0 0] 49)).heap.size = w.heap.size + 2 := by rw [alloc_sz, alloc_sz]
  have HS := Lib.hid (hs.below hb2)
  have HG0 := Lib.hid (grown_below (r := some sb) hb2)
  have K0 := Lib.hid k0
  have K1 := Lib.hid k1
  clear hs hb2 k0 k1
  go_enter Try.func17, Try.ntmps17
  go_upto_region 2 with fail
  generalize ((w.alloc (.cells #[.int .i64 0, .slice none 0 0, .slice none 0 0] 49)).alloc (.cells #[.int .i64 0, .slice none 0 0, .slice none 0 0] 49)) = W0 at *
  generalize hg : w.heap.size = g at *
  have HG := Lib.hid hg
  clear hg
  go_wp2_with fail
  go_loopw [6] (fun t W => ∃ (k : Nat) (v : Value) (ns : List Int), k ≤ m ∧ t = .int .i64 k ∧ W.ownsRow W0.heap.size 3 1 v ns.length (ns.map (Value.int .i64)) ∧ ns.length ≤ k ∧ Hid (ns.Nodup ∧ ∀ x ∈ ns, 0 ≤ x ∧ x < (k : Int)) ∧ Hid (OutAt W (g + 1) 0 v (.slice none 0 0)) ∧ Hid (OutAt W g 0 (.slice none 0 0) (.slice none 0 0)) ∧ Hid (TapeOk W sb) ∧ Hid (w.grownBy W (some sb)) ∧ W0.heap.size ≤ W.heap.size) (fun t _ => m - (intOf t).toNat)
  case atStart => exact ⟨0, .slice none 0 0, [], by omega, rfl, World.ownsRow_nil _ _ _ _, by simp, Lib.hid ⟨List.nodup_nil, fun x hx => by simp at hx⟩, K1, K0, HS, HG0, Nat.le_refl _⟩
  case round =>
    obtain ⟨k, v, ns, hk, rfl, hown, hnl, hns, hO, hR, hT, hGr, hszr⟩ := hrel
    by_cases hlt : k < m
    · have HOWN := Lib.hid hown
      go_wp2_with fail
      refine (TN_run _ sb _ (by omega) (by omega) hT.out).mono ?_
      rintro e W2 ⟨r, hr0, hr1, rfl, hs2, hg2⟩
      have HO2 := Lib.hid (hO.out.keep (hg2.block _ hO.out.lt (by simp; omega)))
      have HR2 := Lib.hid (hR.out.keep (hg2.block _ hR.out.lt (by simp; omega)))
      have HT2 := Lib.hid hs2
      have HG2 := Lib.hid (grown_trans hGr.out hg2)
      have hown2 := HOWN.out.kept hg2 (own_below HOWN.out (by omega))
      have hsz2 : W0.heap.size ≤ W2.heap.size := Nat.le_trans hszr hg2.size
      clear hs2 hg2 hO hR hT hGr hown HOWN hszr
      have hns2 := asc_snoc hns.out.1 hns.out.2
      have HNS2 := Lib.hid hns2
      have hns1 := Lib.hid (show ns.Nodup ∧ ∀ x ∈ ns, 0 ≤ x ∧ x < ((k + 1 : Nat) : Int) from ⟨hns.out.1, fun x hx => by have := hns.out.2 x hx; omega⟩)
      clear hns2 hns
      by_cases h9 : r < 9
      · obtain ⟨o0, o1, o2⟩ := HO2.out.cs
        have of1 := HO2.out.fr 1
        have hol := HO2.out.lt
        have HOW := Lib.hid (fun (j : Nat) (hj : v.ownBlock = some j) => hown2.lt j hj)
        go_wp2_with (at_builtin; refine wpList_append_own _ rfl _ _ 22 rfl W0.heap.size 3 i0 (.int .i64 0) 1 8 Try.underlying22 hin hz0 hz1 hz2 rfl (by decide) _ _ _ rfl (hown2.alloc _) ⟨W2.heap.size, 0, none⟩ 1 1 [.int .i64 (k : Int)] rfl rfl (cell_one_new _ _ _) (fun u hu => by simp at hu; subst hu; rfl) (by unfold maxLen; omega) (by omega) (by simp; omega) ?_; intro v' W3 hown3 hgrow3 hnil; obtain ⟨gq, cq, rfl, hgq, hlq⟩ := hown3.form (by omega); have hO3 : OutAt W3 (g + 1) 0 v (.slice none 0 0) := HO2.out.keep ((hgrow3.block _ (by simp; omega) (fun e => by have := (HOW.out _ e.symm).1; omega)).trans (Below.heap_alloc _ _ _ hol)); obtain ⟨r0, r1, r2⟩ := hO3.cs; have rf1 := hO3.fr 1)
        have hgB : (W2.alloc (.cells #[.int .i64 (k : Int)] 3)).grownBy W3 v.ownBlock := ⟨hgrow3.os, hgrow3.tape, hgrow3.output, hgrow3.size, hgrow3.block⟩
        have hzB := hgB.size
        rw [alloc_sz] at hzB
        have low3 : ∀ q, q < W0.heap.size → W3.heap[q]? = W2.heap[q]? := fun q hq => (hgB.block q (by rw [alloc_sz]; omega) (fun e => by have := (HOW.out _ e.symm).1; omega)).trans (Below.heap_alloc _ _ _ (by omega))
        have HR4 := Lib.hid (HR2.out.keep ((Below.heap_setCell W3 ⟨g + 1, 1, none⟩ (.slice (some ⟨gq, 0, none⟩) (ns.length + 1) cq) g (by simp)).trans (low3 g (by omega))))
        have HT4 := Lib.hid ((HT2.out.keepLow (fun q hq => low3 q (by omega))).setCell (p := ⟨g + 1, 1, none⟩) (by show sb < g + 1; omega) (.slice (some ⟨gq, 0, none⟩) (ns.length + 1) cq))
        have HG4 := Lib.hid (gset (gown (grown_trans HG2.out (grown_below (balloc (bref W2) (.cells #[.int .i64 (k : Int)] 3)))) hgB (fun j hj => by have := (HOW.out j hj).1; have := HG.out; omega)) (p := ⟨g + 1, 1, none⟩) (by rw [HG.out]; simp) (.slice (some ⟨gq, 0, none⟩) (ns.length + 1) cq))
        have HO4 := Lib.hid (hO3.set1 (.slice (some ⟨gq, 0, none⟩) (ns.length + 1) cq))
        have hown4 := Lib.hid ((list_snoc hown3).kept (gset1 W3 ⟨g + 1, 1, none⟩ (.slice (some ⟨gq, 0, none⟩) (ns.length + 1) cq)) (own_below (list_snoc hown3) (by simp; omega)))
        have hsz4 : W0.heap.size ≤ (W3.setCell ⟨g + 1, 1, none⟩ (.slice (some ⟨gq, 0, none⟩) (ns.length + 1) cq)).heap.size := by simp only [World.setCell, Array.size_modify]; omega
        clear hgB low3 hown3 hgrow3 hnil hgq hlq hO3 r0 r1 r2 rf1
        go_wp2_with fail
        go_roundw
        case rel => exact ⟨k + 1, _, ns ++ [(k : Int)], by omega, by go_num, by simpa using hown4.out, by simp; omega, HNS2, HO4, HR4, HT4, HG4, hsz4⟩
        case measure => simp [intOf]; omega
      · clear HNS2
        go_wp2_with fail
        go_roundw
        case rel => exact ⟨k + 1, _, ns, by omega, by go_num, hown2, by omega, hns1, HO2, HR2, HT2, HG2, hsz2⟩
        case measure => simp [intOf]; omega
    · obtain rfl : k = m := by omega
      obtain ⟨Av, cv, rfl⟩ := own_slice hown
      obtain ⟨o0, o1, o2⟩ := hO.out.cs
      have of1 := hO.out.fr 1
      have hol := hO.out.lt
      have hN := NodesAt.of_own hown
      have HN := Lib.hid hN
      have hsz0 : g + 2 ≤ wr.heap.size := by omega
      have HNS := hns
      clear hN hown hns
      rcases Nat.eq_zero_or_pos ns.length with h0 | h0
      · obtain rfl : ns = [] := List.length_eq_zero_iff.1 h0
        clear h0 hnl HN
        go_upto_region 9 with fail
        have hzs : (wr.setCell ⟨g + 1, 1, none⟩ (.slice (some ⟨wr.heap.size, 0, none⟩) 1 1)).heap.size = wr.heap.size := by simp only [World.setCell, Array.size_modify]
        have hba := balloc (bref (wr.setCell ⟨g + 1, 1, none⟩ (.slice (some ⟨wr.heap.size, 0, none⟩) 1 1))) (.cells #[.int .i64 0] 3)
        have hO8 := (hO.out.set1 (.slice (some ⟨wr.heap.size, 0, none⟩) 1 1)).keep (hba.block _ (by rw [hzs]; exact hol))
        have hN8 : NodesAt (fun b => W0.heap.size ≤ b) ((wr.setCell ⟨g + 1, 1, none⟩ (.slice (some ⟨wr.heap.size, 0, none⟩) 1 1)).alloc (.cells #[.int .i64 0] 3)) (.slice (some ⟨wr.heap.size, 0, none⟩) 1 1) [0] := by
          refine ⟨some ⟨wr.heap.size, 0, none⟩, 1, rfl, fun k hk => ⟨wr.heap.size, 0, rfl, hszr, ?_⟩⟩
          obtain rfl : k = 0 := by simpa using hk
          exact (cell_of_row _ _ 0 #[.int .i64 0] 3 (0, 0) (alloc_at hzs)).trans rfl
        have hR8 := (hR.out.keep (Below.heap_setCell wr ⟨g + 1, 1, none⟩ (.slice (some ⟨wr.heap.size, 0, none⟩) 1 1) g (by simp))).keep (hba.block g (by rw [hzs]; omega))
        have hT8 := (hT.out.setCell (p := ⟨g + 1, 1, none⟩) (by show sb < g + 1; omega) (.slice (some ⟨wr.heap.size, 0, none⟩) 1 1)).below hba
        have hG8 := grown_trans (gset hGr.out (p := ⟨g + 1, 1, none⟩) (by rw [HG.out]; simp) (.slice (some ⟨wr.heap.size, 0, none⟩) 1 1)) (grown_below hba)
        have hsz8 : W0.heap.size ≤ ((wr.setCell ⟨g + 1, 1, none⟩ (.slice (some ⟨wr.heap.size, 0, none⟩) 1 1)).alloc (.cells #[.int .i64 0] 3)).heap.size := by rw [alloc_sz, hzs]; omega
        have hM : ∃ A n c ns, (Value.slice (some ⟨wr.heap.size, 0, none⟩) 1 1) = .slice A n c ∧ MostAt w ((wr.setCell ⟨g + 1, 1, none⟩ (.slice (some ⟨wr.heap.size, 0, none⟩) 1 1)).alloc (.cells #[.int .i64 0] 3)) g sb W0.heap.size k A n c ns :=
          ⟨_, 1, 1, [0], rfl, rfl, by omega, by omega, hN8, ⟨by simp, fun x hx => by rw [List.mem_singleton] at hx; omega⟩, hO8, hR8, hT8, hG8, hsz8⟩
        have HM := Lib.hid hM
        clear hba hO8 hN8 hR8 hT8 hG8 hsz8 hM hO hR hT hGr HNS o0 o1 o2 of1 hzs
        generalize ((wr.setCell ⟨g + 1, 1, none⟩ (.slice (some ⟨wr.heap.size, 0, none⟩) 1 1)).alloc (.cells #[.int .i64 0] 3)) = W8 at *
        obtain ⟨A8, n8, c8, ns8, he8, hMA⟩ := HM.out
        clear he8
        have HMA := Lib.hid hMA
        clear HM hMA
        have hn1 := HMA.out.pos
        have hn2 := HMA.out.ten
        have hWl := HMA.out.size
        obtain ⟨p0, p1, p2⟩ := HMA.out.out.cs
        have hol9 := HMA.out.out.lt
        have hcells : ∀ j, j < 5 → ((W8).alloc (.cells #[.int .i64 0, .int .i64 0, .int .i64 0, .int .i64 1, .int .i64 (-1)] 3)).drew.cell? ⟨(W8).heap.size, j, none⟩ = some (.int .i64 (([0, 0, 0, 1, -1] : List Int).getD j 0)) := by
          intro j hj
          refine (cell_of_row ((W8).alloc (.cells #[.int .i64 0, .int .i64 0, .int .i64 0, .int .i64 1, .int .i64 (-1)] 3)).drew _ j _ _ (0, 0) (heap_alloc_new (W8) _)).trans ?_
          match j, hj with
          | 0, _ | 1, _ | 2, _ | 3, _ | 4, _ => rfl
        have HCE := Lib.hid hcells
        have hne9 : (W8).heap.size ≠ sb := by have := HMA.out.tape.lt; omega
        have HT9 := Lib.hid (HMA.out.tape.alloc (.cells #[.int .i64 0, .int .i64 0, .int .i64 0, .int .i64 1, .int .i64 (-1)] 3))
        have hba9 := balloc (bref (W8)) (.cells #[.int .i64 0, .int .i64 0, .int .i64 0, .int .i64 1, .int .i64 (-1)] 3)
        have HB9 := Lib.hid hba9
        have w1 : IntKind.i64.wrap (2 * (n8 : Int)) = 2 * (n8 : Int) := IntWalk.i64_in _ (by omega)
        have w2 : IntKind.i64.wrap (2 * (n8 : Int) + 2) = 2 * (n8 : Int) + 2 := IntWalk.i64_in _ (by omega)
        obtain ⟨Q, hQ⟩ : ∃ Q : Nat, Q = (2 * n8 + 2) / 3 := ⟨_, rfl⟩
        have w3 : IntKind.i64.wrap ((2 * (n8 : Int) + 2).tdiv 3) = (Q : Int) := by
          rw [Int.tdiv_eq_ediv_of_nonneg (by omega), IntWalk.i64_in _ (by omega)]
          omega
        have hQ1 : 1 ≤ Q ∧ Q ≤ 7 := by omega
        clear hcells hba9 hQ
        have hS6 := Lib.hid (show (W8).drew.cell? ⟨g + 1, 1, none⟩ = some (.slice A8 n8 c8) ∧ MX w g sb W0.heap.size A8 n8 c8 ns8 (W8).drew from
          ⟨p1, (show MX w g sb W0.heap.size A8 n8 c8 ns8 (W8) from ⟨⟨0, HMA.out.out⟩, HMA.out.res, HMA.out.tape, HMA.out.grown, by have h1 := HMA.out.nodes; rw [HMA.out.len] at h1; exact h1, HMA.out.size⟩).below ⟨rfl, rfl, rfl, Nat.le_refl _, fun _ _ => rfl⟩⟩)
        go_region_held3 (fun W => W.cell? ⟨g + 1, 1, none⟩ = some (.slice A8 n8 c8) ∧ MX w g sb W0.heap.size A8 n8 c8 ns8 W) (first | exact hS6.out | exact hSK | exact growMX (by assumption) hs2 hg2 hsl (by omega) | exact setMX (by assumption) HG.out hsl (by omega) _ | exact keepMX (by assumption) (balloc (bref _) _) | go_keep)
          (first
            | (go_at_call 34; refine (TPick_run _ sb (W8).heap.size [0, 0, 0, 1, -1] 5 rfl (by omega) (by omega) (by exact HCE.out) (by exact hne9) (by exact HT9.out)).mono ?_; rintro e W2 ⟨j, hj, rfl, hs2, hg2⟩; obtain ⟨q, hq, hq0, hq1⟩ : ∃ q : Int, ([0, 0, 0, 1, -1] : List Int).getD j 0 = q ∧ -1 ≤ q ∧ q ≤ 1 := most_pick j hj; rw [hq]; have hSK := growMX (by assumption) hs2 hg2 hsl (by omega); obtain ⟨⟨y', hOK⟩, _⟩ := id hSK.2; have x0 := hOK.cs.1; have xf0 := hOK.fr 0; have w4 : IntKind.i64.wrap ((Q : Int) + q) = (Q : Int) + q := IntWalk.i64_in _ (by omega)))
        all_goals
          have hF : (W2.setCell ⟨g + 1, 0, none⟩ (.int .i64 (if (if 1 < (Q : Int) + q then (Q : Int) + q else 1) < (n8 : Int) then if 1 < (Q : Int) + q then (Q : Int) + q else 1 else (n8 : Int)))).cell? ⟨g + 1, 1, none⟩ = some (.slice A8 n8 c8) ∧ MX w g sb W0.heap.size A8 n8 c8 ns8 (W2.setCell ⟨g + 1, 0, none⟩ (.int .i64 (if (if 1 < (Q : Int) + q then (Q : Int) + q else 1) < (n8 : Int) then if 1 < (Q : Int) + q then (Q : Int) + q else 1 else (n8 : Int)))) := by assumption
          obtain ⟨ht1, ht2⟩ := most_thr Q q n8 hQ1 hq0 hn1
          have hO9 := hOK.set0 (if (if 1 < (Q : Int) + q then (Q : Int) + q else 1) < (n8 : Int) then if 1 < (Q : Int) + q then (Q : Int) + q else 1 else (n8 : Int))
          have hF2 := hF.2
          have HMX := Lib.hid hF2
          have HO9 := Lib.hid hO9
          clear hF hF2 hO9 hSK hOK x0 xf0
          generalize (if (if 1 < (Q : Int) + q then (Q : Int) + q else 1) < (n8 : Int) then if 1 < (Q : Int) + q then (Q : Int) + q else 1 else (n8 : Int)) = t at *
          generalize W2.setCell ⟨g + 1, 0, none⟩ (.int .i64 t) = W9 at *
          obtain ⟨o0, o1, o2⟩ := HO9.out.cs
          have hR9 := HMX.out.2.1
          have rf0 := hR9.fr 0
          have rf1 := hR9.fr 1
          have rf2 := hR9.fr 2
          obtain ⟨z0, z1, z2⟩ := hR9.cs
          obtain ⟨q0, q1, q2⟩ := (((hR9.set0 t).set1 (.slice A8 n8 c8)).set2 (.slice none 0 0)).cs
          have hE := most_end HMX.out HG.out hsl (by omega) HMA.out.len hn2 ht1 ht2 HMA.out.asc
          have HE := Lib.hid hE
          have Q0 := Lib.hid q0
          have Q1 := Lib.hid q1
          have Q2 := Lib.hid q2
          clear hE hR9 q0 q1 q2
          go_wp2_with fail
          all_goals
            have q0 := Q0.out
            have q1 := Q1.out
            have q2 := Q2.out
            refine bodyPost_ret (v := .agg #[.int .i64 t, .slice A8 n8 c8, .slice none 0 0]) ?_ rfl (by first | exact ⟨_, _, _, .mk t ns8 [], rfl, HE.out⟩ | exact ⟨_, _, _, rfl, .mk t ns8 [], HE.out⟩)
            simp [results, Try.results17, go_sem, q0, q1, q2]
      · have hb0 : ((ns.length : Int) == 0) = false := by rw [beq_eq_false_iff_ne]; omega
        have hM : MostAt w wr g sb W0.heap.size k Av ns.length cv ns := ⟨rfl, h0, by omega, HN.out, HNS.out, hO.out, hR.out, hT.out, hGr.out, hszr⟩
        have HMA := Lib.hid hM
        clear hM h0 HN
        go_upto_region 9 with fail
        clear hO hR hT hGr HNS o0 o1 o2 of1 hol
        have hn1 := HMA.out.pos
        have hn2 := HMA.out.ten
        have hWl := HMA.out.size
        obtain ⟨p0, p1, p2⟩ := HMA.out.out.cs
        have hol9 := HMA.out.out.lt
        have hcells : ∀ j, j < 5 → ((wr).alloc (.cells #[.int .i64 0, .int .i64 0, .int .i64 0, .int .i64 1, .int .i64 (-1)] 3)).drew.cell? ⟨(wr).heap.size, j, none⟩ = some (.int .i64 (([0, 0, 0, 1, -1] : List Int).getD j 0)) := by
          intro j hj
          refine (cell_of_row ((wr).alloc (.cells #[.int .i64 0, .int .i64 0, .int .i64 0, .int .i64 1, .int .i64 (-1)] 3)).drew _ j _ _ (0, 0) (heap_alloc_new (wr) _)).trans ?_
          match j, hj with
          | 0, _ | 1, _ | 2, _ | 3, _ | 4, _ => rfl
        have HCE := Lib.hid hcells
        have hne9 : (wr).heap.size ≠ sb := by have := HMA.out.tape.lt; omega
        have HT9 := Lib.hid (HMA.out.tape.alloc (.cells #[.int .i64 0, .int .i64 0, .int .i64 0, .int .i64 1, .int .i64 (-1)] 3))
        have hba9 := balloc (bref (wr)) (.cells #[.int .i64 0, .int .i64 0, .int .i64 0, .int .i64 1, .int .i64 (-1)] 3)
        have HB9 := Lib.hid hba9
        have w1 : IntKind.i64.wrap (2 * (ns.length : Int)) = 2 * (ns.length : Int) := IntWalk.i64_in _ (by omega)
        have w2 : IntKind.i64.wrap (2 * (ns.length : Int) + 2) = 2 * (ns.length : Int) + 2 := IntWalk.i64_in _ (by omega)
        obtain ⟨Q, hQ⟩ : ∃ Q : Nat, Q = (2 * ns.length + 2) / 3 := ⟨_, rfl⟩
        have w3 : IntKind.i64.wrap ((2 * (ns.length : Int) + 2).tdiv 3) = (Q : Int) := by
          rw [Int.tdiv_eq_ediv_of_nonneg (by omega), IntWalk.i64_in _ (by omega)]
          omega
        have hQ1 : 1 ≤ Q ∧ Q ≤ 7 := by omega
        clear hcells hba9 hQ
        have hS6 := Lib.hid (show (wr).drew.cell? ⟨g + 1, 1, none⟩ = some (.slice Av ns.length cv) ∧ MX w g sb W0.heap.size Av ns.length cv ns (wr).drew from
          ⟨p1, (show MX w g sb W0.heap.size Av ns.length cv ns (wr) from ⟨⟨0, HMA.out.out⟩, HMA.out.res, HMA.out.tape, HMA.out.grown, by have h1 := HMA.out.nodes; rw [HMA.out.len] at h1; exact h1, HMA.out.size⟩).below ⟨rfl, rfl, rfl, Nat.le_refl _, fun _ _ => rfl⟩⟩)
        go_region_held3 (fun W => W.cell? ⟨g + 1, 1, none⟩ = some (.slice Av ns.length cv) ∧ MX w g sb W0.heap.size Av ns.length cv ns W) (first | exact hS6.out | exact hSK | exact growMX (by assumption) hs2 hg2 hsl (by omega) | exact setMX (by assumption) HG.out hsl (by omega) _ | exact keepMX (by assumption) (balloc (bref _) _) | go_keep)
          (first
            | (go_at_call 34; refine (TPick_run _ sb (wr).heap.size [0, 0, 0, 1, -1] 5 rfl (by omega) (by omega) (by exact HCE.out) (by exact hne9) (by exact HT9.out)).mono ?_; rintro e W2 ⟨j, hj, rfl, hs2, hg2⟩; obtain ⟨q, hq, hq0, hq1⟩ : ∃ q : Int, ([0, 0, 0, 1, -1] : List Int).getD j 0 = q ∧ -1 ≤ q ∧ q ≤ 1 := most_pick j hj; rw [hq]; have hSK := growMX (by assumption) hs2 hg2 hsl (by omega); obtain ⟨⟨y', hOK⟩, _⟩ := id hSK.2; have x0 := hOK.cs.1; have xf0 := hOK.fr 0; have w4 : IntKind.i64.wrap ((Q : Int) + q) = (Q : Int) + q := IntWalk.i64_in _ (by omega)))
        all_goals
          have hF : (W2.setCell ⟨g + 1, 0, none⟩ (.int .i64 (if (if 1 < (Q : Int) + q then (Q : Int) + q else 1) < (ns.length : Int) then if 1 < (Q : Int) + q then (Q : Int) + q else 1 else (ns.length : Int)))).cell? ⟨g + 1, 1, none⟩ = some (.slice Av ns.length cv) ∧ MX w g sb W0.heap.size Av ns.length cv ns (W2.setCell ⟨g + 1, 0, none⟩ (.int .i64 (if (if 1 < (Q : Int) + q then (Q : Int) + q else 1) < (ns.length : Int) then if 1 < (Q : Int) + q then (Q : Int) + q else 1 else (ns.length : Int)))) := by assumption
          obtain ⟨ht1, ht2⟩ := most_thr Q q ns.length hQ1 hq0 hn1
          have hO9 := hOK.set0 (if (if 1 < (Q : Int) + q then (Q : Int) + q else 1) < (ns.length : Int) then if 1 < (Q : Int) + q then (Q : Int) + q else 1 else (ns.length : Int))
          have hF2 := hF.2
          have HMX := Lib.hid hF2
          have HO9 := Lib.hid hO9
          clear hF hF2 hO9 hSK hOK x0 xf0
          generalize (if (if 1 < (Q : Int) + q then (Q : Int) + q else 1) < (ns.length : Int) then if 1 < (Q : Int) + q then (Q : Int) + q else 1 else (ns.length : Int)) = t at *
          generalize W2.setCell ⟨g + 1, 0, none⟩ (.int .i64 t) = W9 at *
          obtain ⟨o0, o1, o2⟩ := HO9.out.cs
          have hR9 := HMX.out.2.1
          have rf0 := hR9.fr 0
          have rf1 := hR9.fr 1
          have rf2 := hR9.fr 2
          obtain ⟨z0, z1, z2⟩ := hR9.cs
          obtain ⟨q0, q1, q2⟩ := (((hR9.set0 t).set1 (.slice Av ns.length cv)).set2 (.slice none 0 0)).cs
          have hE := most_end HMX.out HG.out hsl (by omega) HMA.out.len hn2 ht1 ht2 HMA.out.asc
          have HE := Lib.hid hE
          have Q0 := Lib.hid q0
          have Q1 := Lib.hid q1
          have Q2 := Lib.hid q2
          clear hE hR9 q0 q1 q2
          go_wp2_with fail
          all_goals
            have q0 := Q0.out
            have q1 := Q1.out
            have q2 := Q2.out
            refine bodyPost_ret (v := .agg #[.int .i64 t, .slice Av ns.length cv, .slice none 0 0]) ?_ rfl (by first | exact ⟨_, _, _, .mk t ns [], rfl, HE.out⟩ | exact ⟨_, _, _, rfl, .mk t ns [], HE.out⟩)
            simp [results, Try.results17, go_sem, q0, q1, q2]

end Go.Proofs.Ytfghnkgllmofgaa
