/- The contract of trustquorummake.most: a trust in most of the nodes. -/
import Derived.Test.YthbiopmfbnpmfaaMake
import Derived.Test.YthbiopmfbnpmfaaDual
import Derived.Test.YthbiopmfbnpmfaaConf
import Derived.Deep.CutRange
import Derived.Deep.RegionLaw
import Derived.Deep.RegionHeld3
namespace Go.Proofs.Ythbiopmfbnpmfaa
set_option linter.unusedVariables false
set_option linter.unusedSimpArgs false
open Go.RowKit

theorem list_snoc {w : World} {v : Value} {n B : Nat} {gs : List Int} {x : Int} (h : w.ownsRow B 3 1 v n (gs.map (Value.int .i64) ++ [.int .i64 x])) : w.ownsRow B 3 1 v n ((gs ++ [x]).map (Value.int .i64)) := by
  rw [List.map_append]; exact h

theorem asc_snoc {ns : List Int} {k : Nat} (h1 : ns.Nodup) (h2 : ∀ x ∈ ns, 0 ≤ x ∧ x < (k : Int)) : (ns ++ [(k : Int)]).Nodup ∧ ∀ x ∈ ns ++ [(k : Int)], 0 ≤ x ∧ x < ((k + 1 : Nat) : Int) := by
  constructor
  · rw [List.nodup_append]
    refine ⟨h1, by simp, fun a ha b hb => ?_⟩
    rw [List.mem_singleton] at hb
    have := h2 a ha
    omega
  · intro x hx
    rcases List.mem_append.1 hx with h | h
    · have := h2 x h; omega
    · rw [List.mem_singleton] at h; omega

/-- The world of most in front of its threshold. -/
structure MostAt (w W : World) (g sb B m : Nat) (A : Option Addr) (n c : Nat) (ns : List Int) : Prop where
  len : ns.length = n
  pos : 1 ≤ n
  ten : n ≤ 10
  nodes : NodesAt (fun b => B ≤ b) W (.slice A ns.length c) ns
  asc : ns.Nodup ∧ ∀ x ∈ ns, 0 ≤ x ∧ x < (m : Int)
  out : OutAt W (g + 1) 0 (.slice A n c) (.slice none 0 0)
  res : OutAt W g 0 (.slice none 0 0) (.slice none 0 0)
  tape : TapeOk W sb
  grown : w.grownBy W (some sb)
  size : B ≤ W.heap.size

theorem NodesAt.both' {P : Nat → Prop} {w w' : World} {v : Value} {ns : List Int} (h : NodesAt P w v ns) (hk : ∀ k, k < w.heap.size → P k → w'.heap[k]? = w.heap[k]?) : NodesAt P w' v ns := by
  obtain ⟨A, c, h1, h2⟩ := h
  refine ⟨A, c, h1, fun k hk' => ?_⟩
  obtain ⟨b, off, e1, e2, e3⟩ := h2 k hk'
  exact ⟨b, off, e1, e2, (World.cell?_of_block (hk _ (cell_lt e3) e2)).trans e3⟩

theorem NodesAt.below' {P : Nat → Prop} {w w' : World} {v : Value} {ns : List Int} (h : NodesAt P w v ns) (hb : Below w.heap.size w w') : NodesAt P w' v ns := h.both' (fun k hk _ => hb.block k hk)

/-- What the region of the threshold keeps. -/
def MX (w : World) (g sb B : Nat) (A : Option Addr) (n c : Nat) (ns : List Int) (W : World) : Prop :=
  (∃ y, OutAt W (g + 1) y (.slice A n c) (.slice none 0 0)) ∧ OutAt W g 0 (.slice none 0 0) (.slice none 0 0) ∧ TapeOk W sb ∧ w.grownBy W (some sb) ∧ NodesAt (fun b => B ≤ b) W (.slice A n c) ns ∧ B ≤ W.heap.size

theorem MX.below {w W W' : World} {g sb B n c : Nat} {A : Option Addr} {ns : List Int} (h : MX w g sb B A n c ns W) (hb : Below W.heap.size W W') : MX w g sb B A n c ns W' := by
  obtain ⟨⟨y, h1⟩, h2, h3, h4, h5, h6⟩ := h
  exact ⟨⟨y, h1.keep (hb.block _ h1.lt)⟩, h2.keep (hb.block _ h2.lt), h3.below hb, grown_trans h4 (grown_below hb), NodesAt.below' h5 hb, Nat.le_trans h6 hb.size⟩

theorem MX.grown {w W W' : World} {g sb B n c : Nat} {A : Option Addr} {ns : List Int} (h : MX w g sb B A n c ns W) (hs : TapeOk W' sb) (hg : W.grownBy W' (some sb)) (h0 : sb < g) (h1 : sb < B) : MX w g sb B A n c ns W' := by
  obtain ⟨⟨y, k1⟩, h2, h3, h4, h5, h6⟩ := h
  exact ⟨⟨y, k1.keep (hg.block _ k1.lt (by simp; omega))⟩, h2.keep (hg.block _ h2.lt (by simp; omega)), hs, grown_trans h4 hg, NodesAt.both' h5 (fun q hq hP => hg.block q hq (by simp; omega)), Nat.le_trans h6 hg.size⟩

theorem MX.set {w W : World} {g sb B n c : Nat} {A : Option Addr} {ns : List Int} (h : MX w g sb B A n c ns W) (hg : w.heap.size = g) (h0 : sb < g) (h1 : g + 2 ≤ B) (x : Int) : MX w g sb B A n c ns (W.setCell ⟨g + 1, 0, none⟩ (.int .i64 x)) := by
  obtain ⟨⟨y, k1⟩, h2, h3, h4, h5, h6⟩ := h
  have far : ∀ q, q ≠ g + 1 → (W.setCell ⟨g + 1, 0, none⟩ (.int .i64 x)).heap[q]? = W.heap[q]? := fun q hq => Below.heap_setCell _ _ _ _ (by simpa using hq)
  exact ⟨⟨x, k1.set0 x⟩, h2.keep (far g (by omega)), h3.setCell (p := ⟨g + 1, 0, none⟩) (by show sb < g + 1; omega) _, gset h4 (p := ⟨g + 1, 0, none⟩) (by show w.heap.size ≤ g + 1; omega) _, NodesAt.both' h5 (fun q _ hP => far q (by omega)), by simpa [World.setCell] using h6⟩

theorem keepMX {w W W' : World} {g sb B n c : Nat} {A : Option Addr} {ns : List Int} (h : W.cell? ⟨g + 1, 1, none⟩ = some (.slice A n c) ∧ MX w g sb B A n c ns W) (hb : Below W.heap.size W W') : W'.cell? ⟨g + 1, 1, none⟩ = some (.slice A n c) ∧ MX w g sb B A n c ns W' := by
  have k := h.2.below hb
  obtain ⟨⟨y, k1⟩, _⟩ := id k
  exact ⟨k1.cs.2.1, k⟩

theorem growMX {w W W' : World} {g sb B n c : Nat} {A : Option Addr} {ns : List Int} (h : W.cell? ⟨g + 1, 1, none⟩ = some (.slice A n c) ∧ MX w g sb B A n c ns W) (hs : TapeOk W' sb) (hg : W.grownBy W' (some sb)) (h0 : sb < g) (h1 : sb < B) : W'.cell? ⟨g + 1, 1, none⟩ = some (.slice A n c) ∧ MX w g sb B A n c ns W' := by
  have k := h.2.grown hs hg h0 h1
  obtain ⟨⟨y, k1⟩, _⟩ := id k
  exact ⟨k1.cs.2.1, k⟩

theorem setMX {w W : World} {g sb B n c : Nat} {A : Option Addr} {ns : List Int} (h : W.cell? ⟨g + 1, 1, none⟩ = some (.slice A n c) ∧ MX w g sb B A n c ns W) (hg : w.heap.size = g) (h0 : sb < g) (h1 : g + 2 ≤ B) (x : Int) : (W.setCell ⟨g + 1, 0, none⟩ (.int .i64 x)).cell? ⟨g + 1, 1, none⟩ = some (.slice A n c) ∧ MX w g sb B A n c ns (W.setCell ⟨g + 1, 0, none⟩ (.int .i64 x)) := by
  have k := h.2.set hg h0 h1 x
  obtain ⟨⟨y, k1⟩, _⟩ := id k
  exact ⟨k1.cs.2.1, k⟩

theorem most_end {w W : World} {g sb B n c m : Nat} {A : Option Addr} {ns : List Int} {t : Int} (hMX : MX w g sb B A n c ns W) (hg : w.heap.size = g) (h0 : sb < g) (hB : g + 2 ≤ B) (hl : ns.length = n) (hn : n ≤ 10) (ht : 1 ≤ t) (ht1 : t ≤ (n : Int)) (hasc : ns.Nodup ∧ ∀ x ∈ ns, 0 ≤ x ∧ x < (m : Int)) :
    TAt (fun b => w.heap.size ≤ b) 1 (((W.setCell ⟨g, 0, none⟩ (.int .i64 t)).setCell ⟨g, 1, none⟩ (.slice A n c)).setCell ⟨g, 2, none⟩ (.slice none 0 0)) (.int .i64 t) (.slice A n c) (.slice none 0 0) (.mk t ns []) ∧ WF m 1 (.mk t ns []) ∧
      TapeOk (((W.setCell ⟨g, 0, none⟩ (.int .i64 t)).setCell ⟨g, 1, none⟩ (.slice A n c)).setCell ⟨g, 2, none⟩ (.slice none 0 0)) sb ∧ w.grownBy (((W.setCell ⟨g, 0, none⟩ (.int .i64 t)).setCell ⟨g, 1, none⟩ (.slice A n c)).setCell ⟨g, 2, none⟩ (.slice none 0 0)) (some sb) := by
  obtain ⟨_, _, h3, h4, h5, _⟩ := hMX
  have far : ∀ q, q ≠ g → (((W.setCell ⟨g, 0, none⟩ (.int .i64 t)).setCell ⟨g, 1, none⟩ (.slice A n c)).setCell ⟨g, 2, none⟩ (.slice none 0 0)).heap[q]? = W.heap[q]? := fun q hq =>
    (Below.heap_setCell _ _ _ _ (by simpa using hq)).trans ((Below.heap_setCell _ _ _ _ (by simpa using hq)).trans (Below.heap_setCell _ _ _ _ (by simpa using hq)))
  refine ⟨?_, ⟨ht, by simp; omega, by omega, by simp, hasc.2, hasc.1, fun T hT => by simp at hT⟩, ?_, ?_⟩
  · obtain ⟨A', c', e1, e2⟩ := h5
    refine ⟨rfl, by omega, by simp, ⟨A', c', e1, fun k hk => ?_⟩, ⟨none, 0, rfl, fun k T hT => by simp at hT⟩⟩
    obtain ⟨b, off, f1, f2, f3⟩ := e2 k hk
    exact ⟨b, off, f1, by omega, (World.cell?_of_block (far b (by omega))).trans f3⟩
  · exact ((h3.setCell (p := ⟨g, 0, none⟩) (by show sb < g; omega) _).setCell (p := ⟨g, 1, none⟩) (by show sb < g; omega) _).setCell (p := ⟨g, 2, none⟩) (by show sb < g; omega) _
  · exact gset (gset (gset h4 (p := ⟨g, 0, none⟩) (by show w.heap.size ≤ g; omega) _) (p := ⟨g, 1, none⟩) (by show w.heap.size ≤ g; omega) _) (p := ⟨g, 2, none⟩) (by show w.heap.size ≤ g; omega) _

theorem most_thr (Q : Nat) (q : Int) (n : Nat) (h1 : 1 ≤ Q ∧ Q ≤ 7) (h2 : -1 ≤ q) (hn : 1 ≤ n) : 1 ≤ (if (if 1 < (Q : Int) + q then (Q : Int) + q else 1) < (n : Int) then if 1 < (Q : Int) + q then (Q : Int) + q else 1 else (n : Int)) ∧ (if (if 1 < (Q : Int) + q then (Q : Int) + q else 1) < (n : Int) then if 1 < (Q : Int) + q then (Q : Int) + q else 1 else (n : Int)) ≤ (n : Int) := by
  constructor <;> (repeat' split) <;> omega

theorem most_pick (j : Nat) (hj : j < 5) : ∃ q : Int, ([0, 0, 0, 1, -1] : List Int).getD j 0 = q ∧ -1 ≤ q ∧ q ≤ 1 := by
  match j, hj with
  | 0, _ => exact ⟨0, rfl, by omega, by omega⟩
  | 1, _ => exact ⟨0, rfl, by omega, by omega⟩
  | 2, _ => exact ⟨0, rfl, by omega, by omega⟩
  | 3, _ => exact ⟨1, rfl, by omega, by omega⟩
  | 4, _ => exact ⟨-1, rfl, by omega, by omega⟩

end Go.Proofs.Ythbiopmfbnpmfaa
