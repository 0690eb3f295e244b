/- The contract of ThresholdOrder's mixed: a trust with its entries in another order. -/
import Derived.Test.YtmgiojdipheokaaMix
import Derived.Test.YtmgiojdipheokaaFits
import Derived.Deep.CutRange
import Derived.Deep.RegionLaw
namespace Go.Proofs.Ytmgiojdipheokaa
set_option linter.unusedVariables false
open Go.RowKit

set_option maxHeartbeats 1000000 in
theorem Order0_run (w : World) (sb : Nat) (hs : TapeOk w sb) :
    Calls Try.prog 87 #[.pointer (some ⟨sb, 0, none⟩), .int .i64 0] w fun e w' => e = .returned (.slice none 0 0) ∧ w = w' := by
  go_enter Try.func87, Try.ntmps87
  go_wp2_with fail
  go_loopw [5, 6] (fun v t wr => v = .slice none 0 0 ∧ t = .int .i64 0 ∧ w = wr) (fun _ t _ => 0)
  case atStart => exact ⟨rfl, rfl, rfl⟩
  case round =>
    obtain ⟨rfl, rfl, rfl⟩ := hrel
    go_wp2_with fail
    go_loopw [7] (fun t wr => t = .int .i64 (-1) ∧ w = wr) (fun t _ => 0)
    case atStart => exact ⟨rfl, rfl⟩
    case round =>
      obtain ⟨rfl, rfl⟩ := hrel
      go_wp2_with fail
      go_ret
      exact ⟨rfl, rfl⟩

/-- Tape.Order, also for no numbers. -/
theorem OrderAny_run (w : World) (sb n : Nat) (hn1 : n ≤ 1000) (hs : TapeOk w sb) :
    Calls Try.prog 87 #[.pointer (some ⟨sb, 0, none⟩), .int .i64 n] w fun e w' => ∃ (v : Value) (zs : List Int), e = .returned v ∧ zs.length = n ∧ zs.Nodup ∧ (∀ x ∈ zs, 0 ≤ x ∧ x < (n : Int)) ∧ NodesAt (fun b => w.heap.size ≤ b) w' v zs ∧ TapeOk w' sb ∧ w.grownBy w' (some sb) := by
  rcases Nat.eq_zero_or_pos n with rfl | hn
  · refine (Order0_run w sb hs).mono ?_
    rintro e w' ⟨rfl, rfl⟩
    exact ⟨_, [], rfl, rfl, List.nodup_nil, fun x hx => by simp at hx, ⟨none, 0, rfl, fun k hk => by simp at hk⟩, hs, World.grownBy.refl _ _⟩
  · refine (Order_run w sb n hn hn1 hs).mono ?_
    rintro e w' ⟨g, cap, rfl, hg0, hg1, hg2, hord, hs1, hgr⟩
    obtain ⟨zs, zl, znd, zb, zc⟩ := hord.list
    exact ⟨_, zs, rfl, zl, znd, zb, ⟨some ⟨g, 0, none⟩, cap, by rw [zl], fun k hk => ⟨g, 0, rfl, hg0, by rw [Nat.zero_add]; exact zc k (by omega)⟩⟩, hs1, hgr⟩

/-- What mixed is to return. -/
def MixC (n : Int) (sb d : Nat) : Prop := ∀ (P : Nat → Prop) (T : Tree) (v0 v1 v2 : Value) (w : World), (∀ b, P b → b ≠ sb) → TapeOk w sb → TAt P d w v0 v1 v2 T → WF n d T →
  Calls Try.prog 50 #[.pointer (some ⟨sb, 0, none⟩), .agg #[v0, v1, v2]] w fun e w' => ∃ (y0 y1 y2 : Value) (U : Tree), e = .returned (.agg #[y0, y1, y2]) ∧ TAt (fun b => w.heap.size ≤ b) d w' y0 y1 y2 U ∧ MixT d T U ∧ TapeOk w' sb ∧ w.grownBy w' (some sb)

theorem mstep {ns zs : List Int} {k : Nat} {W : World} {v : Value} {B : Nat} (hk : k < zs.length) (h : W.ownsRow B 3 1 v (k + 1) (((zs.take k).map (fun z => ns.getD z.toNat 0)).map (Value.int .i64) ++ [.int .i64 (ns.getD (zs.getD k 0).toNat 0)])) :
    W.ownsRow B 3 1 v (k + 1) (((zs.take (k + 1)).map (fun z => ns.getD z.toNat 0)).map (Value.int .i64)) := by
  have e : ((zs.take (k + 1)).map (fun z => ns.getD z.toNat 0)).map (Value.int .i64) = ((zs.take k).map (fun z => ns.getD z.toNat 0)).map (Value.int .i64) ++ [.int .i64 (ns.getD (zs.getD k 0).toNat 0)] := by
    rw [List.take_add_one, List.getElem?_eq_getElem hk, List.map_append, List.map_append, List.getD_eq_getElem?_getD (l := zs), List.getElem?_eq_getElem hk]
    rfl
  rw [e]; exact h

theorem own_keep {W W' : World} {B n e size : Nat} {v : Value} {xs : List Value} (h : W.ownsRow B e size v n xs) (hk : ∀ j, v.ownBlock = some j → B ≤ j → j < W.heap.size → W'.heap[j]? = W.heap[j]?) : W'.ownsRow B e size v n xs := by
  refine ⟨h.1, ?_⟩
  rcases h.2 with hn | ⟨g, cap, cur, rfl, hb, hgg, rest⟩
  · exact .inl hn
  · refine .inr ⟨g, cap, cur, rfl, hb, (hk g rfl hb ?_).trans hgg, rest⟩
    rcases Nat.lt_or_ge g W.heap.size with h1 | h1
    · exact h1
    · rw [Array.getElem?_eq_none h1] at hgg; cases hgg
theorem Inner.mono {B B' d : Nat} {W : World} {v : Value} {is : List Tree} (h : Inner B d W v is) (hB : B' ≤ B) : Inner B' d W v is := by
  obtain ⟨cs, h1, h2⟩ := h
  refine ⟨cs, h1.mono hB, fun k T hT => ?_⟩
  obtain ⟨x0, x1, x2, e0, e1, e2, e3⟩ := h2 k T hT
  exact ⟨x0, x1, x2, e0, e1, e2, e3.imp (fun q _ hq => ⟨Nat.le_trans hB hq.1, hq.2⟩)⟩
/-- The result's trust. -/
theorem mix_end {W w2 : World} {g sb d B1 : Nat} {thr : Int} {v1 v2 : Value} {ns zs ys : List Int} {is us : List Tree} (hB1 : g + 3 ≤ B1) (hsl : sb < g) (hbw2 : B1 ≤ w2.heap.size) (zl : zs.length = ns.length) (ul : us.length = is.length) (yl : ys.length = is.length) (hn : ns.length ≤ 1000000) (hi : is.length ≤ 1000000)
    (ZP : (zs.map (fun z => ns.getD z.toNat 0)).Perm ns) (YP : (ys.map (fun z => is.getD z.toNat (.mk 0 [] []))).Perm is)
    (OW2 : w2.ownsRow B1 3 1 v1 zs.length ((zs.map (fun z => ns.getD z.toNat 0)).map (Value.int .i64))) (hI : Inner w2.heap.size d W v2 us) (hlow : ∀ q, q < w2.heap.size → q ≠ g + 2 → q ≠ sb → W.heap[q]? = w2.heap[q]?)
    (hmix : ∀ (i : Nat) (U : Tree), us[i]? = some U → ∃ T, is[(ys.getD i 0).toNat]? = some T ∧ MixT d T U) :
    ∃ U, TAt (fun b => g ≤ b) (d + 1) (((W.setCell ⟨g + 1, 0, none⟩ (.int .i64 thr)).setCell ⟨g + 1, 1, none⟩ v1).setCell ⟨g + 1, 2, none⟩ v2) (.int .i64 thr) v1 v2 U ∧ MixT (d + 1) (.mk thr ns is) U := by
  have far : ∀ q, q ≠ g + 1 → (((W.setCell ⟨g + 1, 0, none⟩ (.int .i64 thr)).setCell ⟨g + 1, 1, none⟩ v1).setCell ⟨g + 1, 2, none⟩ v2).heap[q]? = W.heap[q]? := fun q hq =>
    (Below.heap_setCell _ _ _ _ (by simpa using hq)).trans ((Below.heap_setCell _ _ _ _ (by simpa using hq)).trans (Below.heap_setCell _ _ _ _ (by simpa using hq)))
  have h1 : (((W.setCell ⟨g + 1, 0, none⟩ (.int .i64 thr)).setCell ⟨g + 1, 1, none⟩ v1).setCell ⟨g + 1, 2, none⟩ v2).ownsRow (g + 3) 3 1 v1 (zs.map (fun z => ns.getD z.toNat 0)).length ((zs.map (fun z => ns.getD z.toNat 0)).map (Value.int .i64)) := by
    rw [List.length_map]
    exact (own_keep OW2 (fun j _ hj hjl => (far j (by omega)).trans (hlow j hjl (by omega) (by omega)))).mono hB1
  have h2 := (((hI.mono (B' := g + 3) (by omega)).setLow (p := ⟨g + 1, 0, none⟩) (by show g + 1 < g + 3; omega) (.int .i64 thr)).setLow (p := ⟨g + 1, 1, none⟩) (by show g + 1 < g + 3; omega) v1).setLow (p := ⟨g + 1, 2, none⟩) (by show g + 1 < g + 3; omega) v2
  refine ⟨.mk thr (zs.map (fun z => ns.getD z.toNat 0)) us, made (fun b hb => by omega) (by rw [List.length_map]; omega) (by omega) h1 h2, rfl, ZP, _, YP, by rw [List.length_map]; omega, fun i a b ha hb => ?_⟩
  obtain ⟨T, hT, hm⟩ := hmix i b hb
  have hil : i < ys.length := by
    have := (List.getElem?_eq_some_iff.1 hb).1
    omega
  rw [List.getElem?_map, List.getElem?_eq_getElem hil] at ha
  have hg : ys.getD i 0 = ys[i] := by rw [List.getD_eq_getElem?_getD, List.getElem?_eq_getElem hil]; rfl
  rw [hg] at hT
  simp only [Option.map_some, Option.some.injEq, List.getD_eq_getElem?_getD, hT, Option.getD_some] at ha
  rw [← ha]; exact hm

/-- What the second loop keeps: one round's calculation. -/
theorem mix_round {w wr w2 W4 W3 : World} {g sb d k K g3 cap3 n1 c1 n2 c2 : Nat} {thr y0 : Int} {Av : Value} {v2 : Value} {A1 A2 : Option Addr} {is us : List Tree} {ys : List Int} {cs : List Value} {TK U : Tree}
    (hgw : w.heap.size = g) (hsl : sb < g) (hbw2 : g + 3 ≤ w2.heap.size) (hszr : w2.heap.size ≤ wr.heap.size) (hk : us.length = k) (hlow : ∀ q, q < w2.heap.size → q ≠ g + 2 → q ≠ sb → wr.heap[q]? = w2.heap[q]?) (hGr : w.grownBy wr (some sb))
    (hmix : ∀ (i : Nat) (U : Tree), us[i]? = some U → ∃ T, is[(ys.getD i 0).toNat]? = some T ∧ MixT d T U) (hK : ys.getD k 0 = (K : Int)) (hTK : is[K]? = some TK)
    (HCL : ∀ k T, us[k]? = some T → ∃ x0 x1 x2, cs[k * 3]? = some x0 ∧ cs[k * 3 + 1]? = some x1 ∧ cs[k * 3 + 2]? = some x2 ∧ TAt (fun b => w2.heap.size ≤ b ∧ v2.ownBlock ≠ some b) d wr x0 x1 x2 T) (hcn : cs.length = us.length * 3)
    (HOW : ∀ j, v2.ownBlock = some j → w2.heap.size ≤ j ∧ j < wr.heap.size)
    (hTU : TAt (fun b => wr.heap.size ≤ b) d W4 (.int .i64 y0) (.slice A1 n1 c1) (.slice A2 n2 c2) U) (hMU : MixT d TK U) (hs4 : TapeOk W4 sb) (hgr2 : wr.grownBy W4 (some sb))
    (hown3 : W3.ownsRow w2.heap.size 41 3 (.slice (some ⟨g3, 0, none⟩) (us.length + 1) cap3) (us.length + 1) (cs ++ [.int .i64 y0, .slice A1 n1 c1, .slice A2 n2 c2]))
    (hgB : (W4.alloc (.cells #[.int .i64 y0, .slice A1 n1 c1, .slice A2 n2 c2] 41)).grownBy W3 v2.ownBlock)
    (hat3 : v2.ownBlock = some g3 ∨ g3 = (W4.alloc (.cells #[.int .i64 y0, .slice A1 n1 c1, .slice A2 n2 c2] 41)).heap.size) (hO3 : OutAt W3 (g + 2) thr Av v2) :
    OutAt (W3.setCell ⟨g + 2, 2, none⟩ (.slice (some ⟨g3, 0, none⟩) (us.length + 1) cap3)) (g + 2) thr Av (.slice (some ⟨g3, 0, none⟩) (us.length + 1) cap3) ∧
      Inner w2.heap.size d (W3.setCell ⟨g + 2, 2, none⟩ (.slice (some ⟨g3, 0, none⟩) (us.length + 1) cap3)) (.slice (some ⟨g3, 0, none⟩) (us.length + 1) cap3) (us ++ [U]) ∧
      TapeOk (W3.setCell ⟨g + 2, 2, none⟩ (.slice (some ⟨g3, 0, none⟩) (us.length + 1) cap3)) sb ∧ w.grownBy (W3.setCell ⟨g + 2, 2, none⟩ (.slice (some ⟨g3, 0, none⟩) (us.length + 1) cap3)) (some sb) ∧
      (∀ q, q < w2.heap.size → q ≠ g + 2 → q ≠ sb → (W3.setCell ⟨g + 2, 2, none⟩ (.slice (some ⟨g3, 0, none⟩) (us.length + 1) cap3)).heap[q]? = w2.heap[q]?) ∧
      w2.heap.size ≤ (W3.setCell ⟨g + 2, 2, none⟩ (.slice (some ⟨g3, 0, none⟩) (us.length + 1) cap3)).heap.size ∧ (∀ (i : Nat) (V : Tree), (us ++ [U])[i]? = some V → ∃ T, is[(ys.getD i 0).toNat]? = some T ∧ MixT d T V) := by
  have hgz := hgr2.size
  have HI3 := Inner.append (W := W4.alloc (.cells #[.int .i64 y0, .slice A1 n1 c1, .slice A2 n2 c2] 41)) (fun k T hT => by
    obtain ⟨z0, z1, z2, e0, e1, e2, e3⟩ := HCL k T hT
    exact ⟨z0, z1, z2, e0, e1, e2, TAt.below (TAt.keep (w := wr) (w' := W4) (fun q hq hP => hgr2.block q hq (by simp; omega)) e3) (balloc (bref _) _)⟩) hcn
    (TAt.below (TAt.imp (fun q _ hq => ⟨by omega, fun e => by have := HOW q e; omega⟩) hTU) (balloc (bref _) _)) hown3 hgB hat3
  have hgA : wr.grownBy (W4.alloc (.cells #[.int .i64 y0, .slice A1 n1 c1, .slice A2 n2 c2] 41)) (some sb) := grown_trans hgr2 (grown_below (balloc (bref _) _))
  have hzA := hgA.size
  have hzB := hgB.size
  refine ⟨hO3.set2 _, HI3.setLow (p := ⟨g + 2, 2, none⟩) (by show g + 2 < w2.heap.size; omega) _, ?_, ?_, ?_, ?_, ?_⟩
  · exact ((hs4.alloc (.cells #[.int .i64 y0, .slice A1 n1 c1, .slice A2 n2 c2] 41)).keepLow (fun j hj => hgB.block j (by omega) (fun e => by have := (HOW _ e.symm).1; omega))).setCell (p := ⟨g + 2, 2, none⟩) (by show sb < g + 2; omega) _
  · exact gset (gown (grown_trans hGr hgA) hgB (fun j hj => by have := (HOW j hj).1; omega)) (p := ⟨g + 2, 2, none⟩) (by show w.heap.size ≤ g + 2; omega) _
  · intro q hq h1 h2
    exact (Below.heap_setCell _ _ _ _ (by simpa using h1)).trans ((hgB.block q (by omega) (fun e => by have := (HOW _ e.symm).1; omega)).trans ((hgA.block q (by omega) (by simpa using h2)).trans (hlow q hq h1 h2)))
  · simp only [World.setCell, Array.size_modify]; omega
  · intro i V hV
    rcases Nat.lt_or_ge i us.length with h1 | h1
    · rw [List.getElem?_append_left h1] at hV
      exact hmix i V hV
    · rw [List.getElem?_append_right h1] at hV
      have h2 : i - us.length = 0 := by
        have := (List.getElem?_eq_some_iff.1 hV).1
        simp at this; omega
      rw [h2] at hV
      obtain rfl : U = V := by simpa using hV
      obtain rfl : i = k := by omega
      rw [hK, Int.toNat_natCast]
      exact ⟨TK, hTK, hMU⟩

set_option maxRecDepth 100000 in
set_option maxHeartbeats 4000000 in
theorem mixed_step (n : Int) (sb d : Nat) (ih : MixC n sb d) : MixC n sb (d + 1) := by
  intro P T v0 v1 v2 w hPs hs h hWF
  obtain ⟨thr, ns, is⟩ := T
  obtain ⟨rfl, hn, hi, hN, hLs⟩ := h.parts
  obtain ⟨A, c, rfl⟩ := hN.slice
  obtain ⟨B, c', rfl⟩ := hLs.slice
  obtain ⟨wf1, wf2, wf3, wf4, wf5, wf6, wf7⟩ := hWF
  obtain ⟨i0, hin, hz0, hz1, hz2⟩ := info_parts infoInt
  obtain ⟨i3, hi3, hy0, hy1, hy2⟩ := info_parts infoTrust
  have hsl := hs.lt
  -- the three blocks
  have hb3 : Below w.heap.size w (((w.alloc (.cells #[.int .i64 thr, .slice A ns.length c, .slice B is.length c'] 41)).alloc (.cells #[.int .i64 0, .slice none 0 0, .slice none 0 0] 41)).alloc (.cells #[.int .i64 thr, .slice none 0 0, .slice none 0 0] 41)) := balloc (balloc (balloc (bref w) _) _) _
  have k0 : OutAt (((w.alloc (.cells #[.int .i64 thr, .slice A ns.length c, .slice B is.length c'] 41)).alloc (.cells #[.int .i64 0, .slice none 0 0, .slice none 0 0] 41)).alloc (.cells #[.int .i64 thr, .slice none 0 0, .slice none 0 0] 41)) w.heap.size thr (.slice A ns.length c) (.slice B is.length c') := alloc_on (alloc_on (alloc_at rfl))
  have k1 : OutAt (((w.alloc (.cells #[.int .i64 thr, .slice A ns.length c, .slice B is.length c'] 41)).alloc (.cells #[.int .i64 0, .slice none 0 0, .slice none 0 0] 41)).alloc (.cells #[.int .i64 thr, .slice none 0 0, .slice none 0 0] 41)) (w.heap.size + 1) 0 (.slice none 0 0) (.slice none 0 0) := alloc_on (alloc_at (alloc_sz _ _))
  have k2 : OutAt (((w.alloc (.cells #[.int .i64 thr, .slice A ns.length c, .slice B is.length c'] 41)).alloc (.cells #[.int .i64 0, .slice none 0 0, .slice none 0 0] 41)).alloc (.cells #[.int .i64 thr, .slice none 0 0, .slice none 0 0] 41)) (w.heap.size + 2) thr (.slice none 0 0) (.slice none 0 0) := alloc_at (by rw [alloc_sz, alloc_sz])
  have hsz3 : (((w.alloc (.cells #[.int .i64 thr, .slice A ns.length c, .slice B is.length c'] 41)).alloc (.cells #[.int .i64 0, .slice none 0 0, .slice none 0 0] 41)).alloc (.cells #[.int .i64 thr, .slice none 0 0, .slice none 0 0] 41)).heap.size = w.heap.size + 3 := by rw [alloc_sz, alloc_sz, alloc_sz]
  have HS := Lib.hid (hs.below hb3)
  have HB := Lib.hid hb3
  have K0 := Lib.hid k0
  have K1 := Lib.hid k1
  have K2 := Lib.hid k2
  have HN := Lib.hid ((hN.both (Q := fun b => b < w.heap.size ∧ b ≠ sb) (fun _ _ _ => rfl) (fun k hk hP => ⟨hk, hPs k hP⟩)).below hb3)
  have HLS := Lib.hid ((hLs.both (Q := fun b => b < w.heap.size ∧ b ≠ sb) (fun _ _ _ => rfl) (fun k hk hP => ⟨hk, hPs k hP⟩)).below hb3)
  have HI := Lib.hid ih
  have HW7 := Lib.hid wf7
  clear h hN hLs hs ih hb3 k0 k1 k2 hPs wf7 wf5 wf6 wf1 wf2
  go_enter Try.func50, Try.ntmps50
  go_upto_region 2 with fail
  generalize (((w.alloc (.cells #[.int .i64 thr, .slice A ns.length c, .slice B is.length c'] 41)).alloc (.cells #[.int .i64 0, .slice none 0 0, .slice none 0 0] 41)).alloc (.cells #[.int .i64 thr, .slice none 0 0, .slice none 0 0] 41)) = W0 at *
  generalize hg : w.heap.size = g at *
  have HG := Lib.hid hg
  clear hg
  obtain ⟨c0, c1, c2⟩ := K0.out.cs
  go_wp2_with fail
  refine (OrderAny_run _ sb ns.length (by omega) HS.out).mono ?_
  rintro e w1 ⟨vo, zs, rfl, zl, znd, zb, hzs, hs1, hg1⟩
  obtain ⟨Ao, co, rfl⟩ := hzs.slice
  have hw1 := hg1.size
  have hw0 : g + 3 ≤ w1.heap.size := by omega
  have BOX1 := Lib.hid (K0.out.keep (hg1.block _ K0.out.lt (by simp; omega)))
  have RES1 := Lib.hid (K1.out.keep (hg1.block _ K1.out.lt (by simp; omega)))
  have OUT1 := Lib.hid (K2.out.keep (hg1.block _ K2.out.lt (by simp; omega)))
  have N1 := Lib.hid (HN.out.both (fun k hk hP => hg1.block k hk (by simpa using hP.2)) (fun _ _ h => h))
  have L1 := Lib.hid (HLS.out.both (fun k hk hP => hg1.block k hk (by simpa using hP.2)) (fun _ _ h => h))
  have O1 := Lib.hid (hzs.both (Q := fun b => g + 3 ≤ b) (fun _ _ _ => rfl) (fun k _ hk => by omega))
  have T1 := Lib.hid hs1
  have G1 : Hid (w.grownBy w1 (some sb)) := Lib.hid (grown_trans (grown_below (by rw [HG.out]; exact HB.out)) hg1)
  have ZP := Lib.hid (perm_order ns 0 zs zl znd zb)
  have ZB := Lib.hid zb
  clear hzs hs1 hg1 zb znd K0 K1 K2 HN HLS HS c0 c1 c2
  go_wp2_with fail
  go_loopw [19] (fun t W => ∃ (k : Nat) (v : Value), k ≤ zs.length ∧ t = .int .i64 k ∧ W.ownsRow w1.heap.size 3 1 v k (((zs.take k).map (fun z => ns.getD z.toNat 0)).map (Value.int .i64)) ∧ Hid (OutAt W (g + 2) thr v (.slice none 0 0)) ∧ Hid (w1.grownBy W (some (g + 2)))) (fun t _ => zs.length - (intOf t).toNat)
  case atStart => exact ⟨0, .slice none 0 0, by omega, rfl, World.ownsRow_nil _ _ _ _, OUT1, Lib.hid (World.grownBy.refl _ _)⟩
  case round =>
    obtain ⟨k, v, hk, rfl, hown, hO, hGr⟩ := hrel
    have hwr := hGr.out.size
    by_cases hlt : k < zs.length
    · obtain ⟨Ao', co', eo, hzc⟩ := O1.out
      cases eo
      obtain ⟨b, off, rfl, hPb, hc⟩ := hzc k hlt
      have hmem : zs.getD k 0 ∈ zs := by rw [List.getD_eq_getElem?_getD, List.getElem?_eq_getElem hlt]; exact List.getElem_mem hlt
      obtain ⟨z0, z1⟩ := ZB.out _ hmem
      obtain ⟨K, hK⟩ := Int.eq_ofNat_of_zero_le z0
      have hms := Lib.hid (fun (W : World) (v' : Value) (B' : Nat) (h : W.ownsRow B' 3 1 v' (k + 1) (((zs.take k).map (fun z => ns.getD z.toNat 0)).map (Value.int .i64) ++ [.int .i64 (ns.getD (zs.getD k 0).toNat 0)])) => mstep (ns := ns) hlt h)
      rw [hK] at hc z1 hms
      rw [Int.toNat_natCast] at hms
      obtain ⟨A', c'', en, hnc⟩ := N1.out
      cases en
      obtain ⟨b2, off2, rfl, hP2, hc2⟩ := hnc K (by omega)
      have d1 := (World.cell?_of_block (hGr.out.block b (cell_lt hc) (by simp; omega))).trans hc
      have d2 := (World.cell?_of_block (hGr.out.block b2 (cell_lt hc2) (by simp; omega))).trans hc2
      have hK3 : K < ns.length := by omega
      generalize ns.getD K 0 = y at *
      obtain ⟨o0, o1, o2⟩ := hO.out.cs
      have of1 := hO.out.fr 1
      have hol := hO.out.lt
      have BOXr := hGr.out.block g (by omega) (by simp)
      obtain ⟨x0, x1, x2⟩ := (BOX1.out.keep BOXr).cs
      have HOW := Lib.hid (fun (j : Nat) (hj : v.ownBlock = some j) => hown.lt j hj)
      have HOWN := Lib.hid hown
      clear hc hc2 hmem hK hown BOXr z0 z1
      go_upto_region 5 with fail
      go_region_law (first
        | (refine step_append_lies _ (by rfl) _ _ _ (by rfl) w1.heap.size 3 i0 (.int .i64 0) 1 8 Try.underlying22 hin hz0 hz1 hz2 rfl (by decide) v k _ (by rfl) (by exact (HOWN.out.alloc _)) ⟨wr.heap.size, 0, none⟩ 1 1 [.int .i64 y] (by rfl) rfl (by exact cell_one_new _ _ _) (by intro u hu; simp at hu; subst hu; rfl) (by omega) (by unfold maxLen; omega) (by omega) (by simp; omega) _ rfl ?_; intro g3 cap3 W3 hown3 hgrow3 hat3 hlt3; have hO3 : OutAt W3 (g + 2) thr v (.slice none 0 0) := hO.out.keep ((hgrow3.block _ (by simp; omega) (fun e => by have := (HOW.out _ e.symm).1; omega)).trans (Below.heap_alloc _ _ _ hol)); obtain ⟨r0, r1, r2⟩ := hO3.cs; have rf1 := hO3.fr 1))
      all_goals
        have hgA : wr.grownBy (wr.alloc (.cells #[.int .i64 y] 3)) (some (g + 2)) := grown_below (balloc (bref _) _)
        have hgB : (wr.alloc (.cells #[.int .i64 y] 3)).grownBy W3 v.ownBlock := ⟨hgrow3.os, hgrow3.tape, hgrow3.output, hgrow3.size, hgrow3.block⟩
        have HG4 := Lib.hid (grown_at (gown (grown_trans hGr.out hgA) hgB (fun j hj => (HOW.out j hj).1)) 1 (.slice (some ⟨g3, 0, none⟩) (k + 1) cap3))
        have HO4 := Lib.hid (hO3.set1 (.slice (some ⟨g3, 0, none⟩) (k + 1) cap3))
        have hown4 := (hms.out _ _ _ hown3).kept (gset1 W3 ⟨g + 2, 1, none⟩ (.slice (some ⟨g3, 0, none⟩) (k + 1) cap3)) (own_below (hms.out _ _ _ hown3) (by simp; omega))
        clear hgA hgB hown3 hgrow3 hat3 hlt3 hO3 r0 r1 r2 rf1
        go_wp2_with fail
        go_roundw
        case rel => exact ⟨k + 1, _, by omega, by go_num, hown4, HO4, HG4⟩
        case measure => simp [intOf]; omega
    · obtain rfl : k = zs.length := by omega
      obtain ⟨Av, cv, rfl⟩ := own_slice hown
      have hfull : zs.take zs.length = zs := List.take_length
      rw [hfull] at hown
      clear hfull
      have BOXr := Lib.hid (BOX1.out.keep (hGr.out.block _ BOX1.out.lt (by simp)))
      have RESr := Lib.hid (RES1.out.keep (hGr.out.block _ RES1.out.lt (by simp)))
      have Lr := Lib.hid (L1.out.both (fun k hk hP => hGr.out.block k hk (by simp; omega)) (fun _ _ h => h))
      have Tr := Lib.hid (T1.out.keepLow (fun q hq => hGr.out.block q (by omega) (by simp; omega)))
      have Gr : Hid (w.grownBy wr (some sb)) := Lib.hid (gown G1.out hGr.out (fun j hj => by obtain rfl := Option.some.inj hj; have := HG.out; omega))
      have HOWN := Lib.hid hown
      have OUTr := hO
      clear hown BOX1 RES1 L1 T1 G1 N1 O1 OUT1 hO hGr
      obtain ⟨x0, x1, x2⟩ := BOXr.out.cs
      go_wp2_with fail
      refine (OrderAny_run _ sb is.length (by omega) Tr.out).mono ?_
      rintro e w2 ⟨vo, ys, rfl, yl, ynd, yb, hys, hs2, hg2⟩
      obtain ⟨Ay, cy, rfl⟩ := hys.slice
      have hw2 := hg2.size
      have BOX2 := Lib.hid (BOXr.out.keep (hg2.block _ BOXr.out.lt (by simp; omega)))
      have RES2 := Lib.hid (RESr.out.keep (hg2.block _ RESr.out.lt (by simp; omega)))
      have OUT2 := Lib.hid (OUTr.out.keep (hg2.block _ OUTr.out.lt (by simp; omega)))
      have L2 := Lib.hid (Lr.out.both (fun k hk hP => hg2.block k hk (by simpa using hP.2)) (fun _ _ h => h))
      have O2 := Lib.hid (hys.both (Q := fun b => g + 3 ≤ b) (fun _ _ _ => rfl) (fun k _ hk => by omega))
      have T2 := Lib.hid hs2
      have G2 := Lib.hid (grown_trans Gr.out hg2)
      have OW2 := Lib.hid (HOWN.out.kept hg2 (own_below HOWN.out (by omega)))
      have YB := Lib.hid yb
      have YP := Lib.hid (perm_order is (.mk 0 [] []) ys yl ynd yb)
      have hbw2 : g + 3 ≤ w2.heap.size := by omega
      clear hys hs2 hg2 BOXr RESr Lr Tr Gr HOWN OUTr x0 x1 x2 yb ynd
      go_wp2_with fail
      go_loopw [40] (fun t W => ∃ (k : Nat) (v2 : Value) (us : List Tree), k ≤ ys.length ∧ us.length = k ∧ t = .int .i64 k ∧ Hid (OutAt W (g + 2) thr (.slice Av zs.length cv) v2) ∧ Hid (Inner w2.heap.size d W v2 us) ∧ Hid (TapeOk W sb) ∧ Hid (w.grownBy W (some sb)) ∧
        Hid (∀ q, q < w2.heap.size → q ≠ g + 2 → q ≠ sb → W.heap[q]? = w2.heap[q]?) ∧ w2.heap.size ≤ W.heap.size ∧ Hid (∀ (i : Nat) (U : Tree), us[i]? = some U → ∃ T, is[(ys.getD i 0).toNat]? = some T ∧ MixT d T U)) (fun t _ => ys.length - (intOf t).toNat)
      case atStart => exact ⟨0, .slice none 0 0, [], by omega, rfl, rfl, OUT2, Lib.hid (Inner.nil _ _ _), T2, G2, Lib.hid (fun q _ _ _ => rfl), Nat.le_refl _, Lib.hid (fun i U h => by simp at h)⟩
      case round =>
        obtain ⟨k, v2, us, hk, hus, rfl, hO, hI, hT, hGr, hlow, hszr, hmix⟩ := hrel
        by_cases hlt : k < ys.length
        · obtain ⟨Ay', cy', eo, hyc⟩ := O2.out
          cases eo
          obtain ⟨b, off, rfl, hPb, hc⟩ := hyc k hlt
          have hmem : ys.getD k 0 ∈ ys := by rw [List.getD_eq_getElem?_getD, List.getElem?_eq_getElem hlt]; exact List.getElem_mem hlt
          obtain ⟨z0, z1⟩ := YB.out _ hmem
          obtain ⟨K, hK⟩ := Int.eq_ofNat_of_zero_le z0
          have HK := Lib.hid hK
          rw [hK] at hc z1
          have hKl : K < is.length := by omega
          obtain ⟨TK, hTK⟩ : ∃ T, is[K]? = some T := ⟨_, List.getElem?_eq_getElem hKl⟩
          have HTK := Lib.hid hTK
          obtain ⟨B', c'', en, hnc⟩ := L2.out
          cases en
          obtain ⟨b2, off2, y0, y1, y2, rfl, hP2, e0, e1, e2, hTA⟩ := hnc K TK hTK
          obtain ⟨t', A', n', ca, B', m', cb, rfl, rfl, rfl⟩ := hTA.form
          have l2 := cell_lt e0
          have lw := hlow.out b2 l2 (by omega) hP2.2
          have d0 := (World.cell?_of_block (hlow.out b (cell_lt hc) (by omega) (by omega))).trans hc
          have d1 := (World.cell?_of_block (a := ⟨b2, off2 + K * 3, none⟩) lw).trans e0
          have d2 := (World.cell?_of_block (a := ⟨b2, off2 + K * 3 + 1, none⟩) lw).trans e1
          have d3 := (World.cell?_of_block (a := ⟨b2, off2 + K * 3 + 2, none⟩) lw).trans e2
          have HTA := Lib.hid (hTA.keep (w' := wr.drew) (fun q hq hP => hlow.out q hq (by omega) hP.2))
          have hWK := Lib.hid (HW7.out TK (List.mem_of_getElem? hTK))
          obtain ⟨x0, x1, x2⟩ := (BOX2.out.keep (hlow.out g (by omega) (by omega) (by omega))).cs
          obtain ⟨o0, o1, o2⟩ := hO.out.cs
          have of2 := hO.out.fr 2
          have hol := hO.out.lt
          obtain ⟨cs, hcs, hcl⟩ := hI.out
          have hcn := hcs.1
          have HCS := Lib.hid hcs
          have HCL := Lib.hid hcl
          have HOW := Lib.hid hI.out.own
          clear hc hmem hK e0 e1 e2 lw hTA hTK z0 hcs hcl
          go_upto_region 10 with fail
          go_region_law (first
            | (go_simp; go_at_call 50; refine (HI.out (fun b => b < g ∧ b ≠ sb) TK _ _ _ _ (fun b hb => hb.2) (by exact hT.out) (by exact HTA.out) (by exact hWK.out)).mono ?_; rintro e W4 ⟨q0, q1, q2, U, rfl, hTU, hMU, hs4, hg4⟩; obtain ⟨y0, A1, n1, c1, A2, n2, c2, rfl, rfl, rfl⟩ := hTU.form; have hgr2 : wr.grownBy W4 (some sb) := ⟨hg4.os, hg4.tape, hg4.output, hg4.size, hg4.block⟩; have hgz := hgr2.size; have hO2 : OutAt W4 (g + 2) thr (.slice Av zs.length cv) v2 := hO.out.keep (hg4.block _ hol (by simp; omega)); obtain ⟨p0, p1, p2⟩ := hO2.cs; have hol2 := hO2.lt)
            | (refine step_append_lies _ (by rfl) _ _ _ (by rfl) w2.heap.size 41 i3 (.agg #[.int .i64 0, .slice none 0 0, .slice none 0 0]) 3 56 Try.underlying39 hi3 hy0 hy1 hy2 rfl (by decide) v2 us.length cs (by rfl) (by exact ((HCS.out.kept hgr2 (ne_own HOW.out (by omega))).alloc _)) ⟨W4.heap.size, 0, none⟩ 1 1 [.int .i64 y0, .slice A1 n1 c1, .slice A2 n2 c2] (by rfl) rfl (by exact cell_three_new _ _ _ _ _) (by intro u hu; simp at hu; rcases hu with rfl | rfl | rfl <;> rfl) (by omega) (by unfold maxLen; omega) (by omega) (by simp; omega) _ rfl ?_; intro g3 cap3 W3 hown3 hgrow3 hat3 hlt3; have hO3 : OutAt W3 (g + 2) thr (.slice Av zs.length cv) v2 := hO2.keep ((hgrow3.block _ (by simp; omega) (fun e => by have := (HOW.out _ e.symm).1; omega)).trans (Below.heap_alloc _ _ _ hol2)); obtain ⟨r0, r1, r2⟩ := hO3.cs; have rf2 := hO3.fr 2))
          all_goals
            have hpost := mix_round (d := d) HG.out hsl hbw2 hszr hus hlow.out hGr.out hmix.out HK.out HTK.out HCL.out hcn HOW.out hTU hMU hs4 hgr2 hown3 ⟨hgrow3.os, hgrow3.tape, hgrow3.output, hgrow3.size, hgrow3.block⟩ hat3 hO3
            clear hown3 hgrow3 hat3 hlt3 hO3 r0 r1 r2 rf2 hTU hMU hs4 hg4 hgr2 hO2 p0 p1 p2
            obtain ⟨h1, h2, h3, h4, h5, h6, h7⟩ := hpost
            have H1 := Lib.hid h1
            have H2 := Lib.hid h2
            have H3 := Lib.hid h3
            have H4 := Lib.hid h4
            have H5 := Lib.hid h5
            have H7 := Lib.hid h7
            clear h1 h2 h3 h4 h5 h7
            subst hus
            go_wp2_with fail
            go_roundw
            case rel => exact ⟨us.length + 1, _, us ++ [U], by omega, by simp, by go_num, H1, H2, H3, H4, H5, h6, H7⟩
            case measure => simp [intOf]; omega
        · obtain rfl : k = ys.length := by omega
          obtain ⟨A2, c2, rfl⟩ := hI.out.slice
          obtain ⟨o0, o1, o2⟩ := hO.out.cs
          have hR := RES2.out.keep (hlow.out (g + 1) (by omega) (by omega) (by omega))
          obtain ⟨r0, r1, r2⟩ := hR.cs
          have rf0 := hR.fr 0
          have rf1 := hR.fr 1
          have rf2 := hR.fr 2
          have hRX := ((hR.set0 thr).set1 (.slice Av zs.length cv)).set2 (.slice A2 us.length c2)
          obtain ⟨q0, q1, q2⟩ := hRX.cs
          have hend := mix_end (thr := thr) (v1 := .slice Av zs.length cv) (v2 := .slice A2 us.length c2) hw0 hsl (Nat.le_trans hwr hw2) zl (by omega) yl hn hi ZP.out YP.out OW2.out hI.out hlow.out hmix.out
          have hg9 := gset (gset (gset hGr.out (p := ⟨g + 1, 0, none⟩) (by rw [HG.out]; simp) (.int .i64 thr)) (p := ⟨g + 1, 1, none⟩) (by rw [HG.out]; simp) (.slice Av zs.length cv)) (p := ⟨g + 1, 2, none⟩) (by rw [HG.out]; simp) (.slice A2 us.length c2)
          have ht9 := ((hT.out.setCell (p := ⟨g + 1, 0, none⟩) (by show sb < g + 1; omega) (.int .i64 thr)).setCell (p := ⟨g + 1, 1, none⟩) (by show sb < g + 1; omega) (.slice Av zs.length cv)).setCell (p := ⟨g + 1, 2, none⟩) (by show sb < g + 1; omega) (.slice A2 us.length c2)
          have hul : us.length = is.length := by omega
          rw [zl, hul] at hend hg9 ht9 q0 q1 q2
          have HEND := Lib.hid hend
          have HG9 := Lib.hid hg9
          have HT9 := Lib.hid ht9
          have Q0 := Lib.hid q0
          have Q1 := Lib.hid q1
          have Q2 := Lib.hid q2
          clear hend hR hRX hg9 ht9 q0 q1 q2
          go_wp2_with fail
          obtain ⟨U, hU1, hU2⟩ := HEND.out
          have q0 := Q0.out
          have q1 := Q1.out
          have q2 := Q2.out
          refine bodyPost_ret (v := .agg #[.int .i64 thr, .slice Av ns.length cv, .slice A2 is.length c2]) ?_ rfl ⟨_, _, _, U, rfl, ?_, hU2, HT9.out, HG9.out⟩
          · simp [results, Try.results50, go_sem, q0, q1, q2]
          · rw [HG.out]; exact hU1

theorem mixed_run (n : Int) (sb : Nat) : ∀ d, MixC n sb d
  | 0 => fun P T v0 v1 v2 w _ _ h => h.elim
  | d + 1 => mixed_step n sb d (mixed_run n sb d)
end Go.Proofs.Ytmgiojdipheokaa
