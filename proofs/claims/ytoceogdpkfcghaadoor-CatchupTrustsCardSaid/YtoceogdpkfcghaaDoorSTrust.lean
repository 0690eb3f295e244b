/- The contract of the source's Trust (trustquorumplay): mostly a threshold, sometimes with an inner one. -/
import Derived.Test.YtoceogdpkfcghaaDoorPFlat
import Derived.Test.YtoceogdpkfcghaaDoorJoinMath
import Derived.Deep.CutRange
import Derived.Deep.RegionLaw
namespace Go.Proofs.YtoceogdpkfcghaaDoor
set_option linter.unusedVariables false
set_option linter.unusedSimpArgs false
open Go.RowKit

theorem SrcOk.low {w w' : World} {sb : Nat} (h : SrcOk w sb) (hk : ∀ k, k ≤ sb → w'.heap[k]? = w.heap[k]?) : SrcOk w' sb := by
  obtain ⟨a, len, cap, at_, hb, h1, h2, h3, h4⟩ := h
  refine ⟨a, len, cap, at_, (hk _ (Nat.le_refl _)).trans hb, h1, h2, h3, fun i hi => ?_⟩
  obtain ⟨b, off, z, e1, e2, e3, e4⟩ := h4 i hi
  exact ⟨b, off, z, e1, e2, (World.cell?_of_block (hk b (by omega))).trans e3, e4⟩

/-- The memory of the making of a trust. -/
structure TrS (w : World) (sb g : Nat) (x : Int) (v1 v2 : Value) (ns : List Int) (is : List Tree) (W : World) : Prop where
  out : OutAt W (g + 1) x v1 v2
  res : OutAt W g 0 (.slice none 0 0) (.slice none 0 0)
  own : W.ownsRow (g + 1 + 1) 3 1 v1 ns.length (ns.map (Value.int .i64))
  inner : Inner (g + 1 + 1) 1 W v2 is
  src : SrcOk W sb
  gr : w.grownBy W (some sb)
  lo : sb < g
  eq : w.heap.size = g

theorem TrS.grown {w W W' : World} {sb g : Nat} {x : Int} {v1 v2 : Value} {ns : List Int} {is : List Tree} (h : TrS w sb g x v1 v2 ns is W) (hs : SrcOk W' sb) (hg : W.grownBy W' (some sb)) : TrS w sb g x v1 v2 ns is W' :=
  ⟨h.out.keep (hg.block _ h.out.lt (by have := h.lo; simp; omega)), h.res.keep (hg.block _ h.res.lt (by have := h.lo; simp; omega)), h.own.kept hg (own_below h.own (by have := h.lo; omega)), h.inner.keep hg (fun j hj => by obtain rfl := Option.some.inj hj; have := h.lo; omega), hs, grown_trans h.gr hg, h.lo, h.eq⟩

theorem TrS.bl {w W W' : World} {sb g : Nat} {x : Int} {v1 v2 : Value} {ns : List Int} {is : List Tree} (h : TrS w sb g x v1 v2 ns is W) (hb : Below W.heap.size W W') : TrS w sb g x v1 v2 ns is W' :=
  h.grown (h.src.below hb) (grown_below hb)

theorem TrS.set0 {w W : World} {sb g : Nat} {x : Int} {v1 v2 : Value} {ns : List Int} {is : List Tree} (h : TrS w sb g x v1 v2 ns is W) (y : Int) : TrS w sb g y v1 v2 ns is (W.setCell ⟨g + 1, 0, none⟩ (.int .i64 y)) := by
  have hlo := h.lo
  exact ⟨h.out.set0 y, h.res.keep (Below.heap_setCell _ _ _ _ (by simp)), h.own.kept (gset1 W ⟨g + 1, 0, none⟩ _) (own_below h.own (by simp)), h.inner.setLow (p := ⟨g + 1, 0, none⟩) (by simp) _, h.src.setCell (by simp; omega) _, gset h.gr (p := ⟨g + 1, 0, none⟩) (by have := h.eq; simp; omega) _, h.lo, h.eq⟩

theorem TrS.fin {w W : World} {sb g : Nat} {x : Int} {A1 A2 : Option Addr} {k1 k2 : Nat} {ns : List Int} {is : List Tree} (h : TrS w sb g x (.slice A1 ns.length k1) (.slice A2 is.length k2) ns is W) (hn : ns.length ≤ 1000000 := by omega) (hi : is.length ≤ 1000000 := by omega) :
    TAt (fun b => w.heap.size ≤ b) 2 (((W.setCell ⟨g, 0, none⟩ (.int .i64 x)).setCell ⟨g, 1, none⟩ (.slice A1 ns.length k1)).setCell ⟨g, 2, none⟩ (.slice A2 is.length k2)) (.int .i64 x) (.slice A1 ns.length k1) (.slice A2 is.length k2) (.mk x ns is) ∧ SrcOk (((W.setCell ⟨g, 0, none⟩ (.int .i64 x)).setCell ⟨g, 1, none⟩ (.slice A1 ns.length k1)).setCell ⟨g, 2, none⟩ (.slice A2 is.length k2)) sb ∧ w.grownBy (((W.setCell ⟨g, 0, none⟩ (.int .i64 x)).setCell ⟨g, 1, none⟩ (.slice A1 ns.length k1)).setCell ⟨g, 2, none⟩ (.slice A2 is.length k2)) (some sb) := by
  have hlo := h.lo
  have heq := h.eq
  have k0 := ((h.own.kept (gset1 W ⟨g, 0, none⟩ (.int .i64 x)) (own_below h.own (by simp; omega))).kept (gset1 _ ⟨g, 1, none⟩ (.slice A1 ns.length k1)) (own_below h.own (by simp; omega))).kept (gset1 _ ⟨g, 2, none⟩ (.slice A2 is.length k2)) (own_below h.own (by simp; omega))
  have k2' := ((h.inner.setLow (p := ⟨g, 0, none⟩) (by simp; omega) (.int .i64 x)).setLow (p := ⟨g, 1, none⟩) (by simp; omega) (.slice A1 ns.length k1)).setLow (p := ⟨g, 2, none⟩) (by simp; omega) (.slice A2 is.length k2)
  exact ⟨made (fun b hb => by omega) hn hi k0 k2', ((h.src.setCell (by simp; omega) _).setCell (by simp; omega) _).setCell (by simp; omega) _, gset (gset (gset h.gr (p := ⟨g, 0, none⟩) (by simp; omega) _) (p := ⟨g, 1, none⟩) (by simp; omega) _) (p := ⟨g, 2, none⟩) (by simp; omega) _⟩

theorem own_any (v : Value) : v.ownBlock = none ∨ v.ownBlock ≠ none := by
  cases v.ownBlock with
  | none => exact .inl rfl
  | some q => exact .inr (by simp)

def NSt (k : Nat) (ns : List Int) : Prop := (∀ x ∈ ns, 0 ≤ x ∧ x < (k : Int)) ∧ ns.Nodup ∧ ns.length ≤ k

theorem NSt.snoc {k : Nat} {ns : List Int} (h : NSt k ns) : NSt (k + 1) (ns ++ [(k : Int)]) := by
  obtain ⟨h1, h2, h3⟩ := h
  refine ⟨fun x hx => ?_, ?_, by simp; omega⟩
  · rcases List.mem_append.1 hx with hx | hx
    · have := h1 x hx; omega
    · rw [List.mem_singleton] at hx; omega
  · rw [List.nodup_append]
    refine ⟨h2, by simp, fun a ha b hb => ?_⟩
    rw [List.mem_singleton] at hb
    have := h1 a ha
    omega

theorem NSt.up {k : Nat} {ns : List Int} (h : NSt k ns) : NSt (k + 1) ns := ⟨fun x hx => by have := h.1 x hx; omega, h.2.1, by have := h.2.2; omega⟩

theorem own_one {w : World} {B : Nat} (x : Int) (h : B ≤ w.heap.size) : (w.alloc (.cells #[.int .i64 x] 3)).ownsRow B 3 1 (.slice (some ⟨w.heap.size, 0, none⟩) 1 1) [x].length ([x].map (Value.int .i64)) :=
  ⟨by simp, .inr ⟨w.heap.size, 1, #[.int .i64 x], rfl, h, heap_alloc_new _ _, by simp, by unfold maxLen; omega, rfl, rfl⟩⟩

theorem WF.one {n : Nat} {j : Int} (h0 : 0 ≤ j) (h1 : j < (n : Int)) : WF n 1 (.mk 1 [j] []) := (Fine.single (D := 0) h0 h1).1

theorem fine_made {n : Nat} {t : Int} {ns : List Int} {is : List Tree} (hn : n ≤ 10) (h : NSt n ns) (hi : is.length ≤ 1) (hw : ∀ T ∈ is, ∃ j : Int, 0 ≤ j ∧ j < (n : Int) ∧ T = .mk 1 [j] []) (t0 : 1 ≤ t) (t1 : t ≤ ((ns.length + is.length : Nat) : Int)) : Fine n 2 (.mk t ns is) := by
  refine ⟨⟨t0, t1, by have := h.2.2; omega, by omega, h.1, h.2.1, fun T hT => ?_⟩, ?_⟩
  · obtain ⟨j, j0, j1, rfl⟩ := hw T hT
    exact WF.one j0 j1
  · have h3 := h.2.2
    match is, hi, hw with
    | [], _, _ => simp [sizeT]; omega
    | [T], _, hw =>
      obtain ⟨j, j0, j1, rfl⟩ := hw T (by simp)
      simp [sizeT]; omega

set_option maxRecDepth 100000 in
set_option maxHeartbeats 4000000 in
theorem strust_run (n : Nat) (hn1 : 1 ≤ n) (hn : n ≤ 10) (w : World) (sb : Nat) (hs : SrcOk w sb) :
    Calls Tryd.prog 5 #[.pointer (some ⟨sb, 0, none⟩), .int .i64 n] w fun e w' => ∃ (t : Int) (A1 A2 : Option Addr) (n1 k1 n2 k2 : Nat) (T : Tree), e = .returned (.agg #[.int .i64 t, .slice A1 n1 k1, .slice A2 n2 k2]) ∧ TAt (fun b => w.heap.size ≤ b) 2 w' (.int .i64 t) (.slice A1 n1 k1) (.slice A2 n2 k2) T ∧ Fine n 2 T ∧ SrcOk w' sb ∧ w.grownBy w' (some sb) := by
  obtain ⟨i0, hi, hz0, hz1, hz2⟩ := info_parts infoInt
  obtain ⟨i3, hi3, hy0, hy1, hy2⟩ := info_parts infoTrust
  have hsl := hs.lt
  have H0 := Lib.hid (show TrS w sb w.heap.size 0 (.slice none 0 0) (.slice none 0 0) [] [] ((w.alloc (.cells #[.int .i64 0, .slice none 0 0, .slice none 0 0] 27)).alloc (.cells #[.int .i64 0, .slice none 0 0, .slice none 0 0] 27)) from by
    refine ⟨?_, (Below.heap_alloc _ _ _ (by simp)).trans (heap_alloc_new _ _), World.ownsRow_nil _ _ _ _, Inner.nil _ _ _, (hs.alloc _).alloc _, grown_below (balloc (balloc (bref _) _) _), hsl, rfl⟩
    have := heap_alloc_new (w.alloc (.cells #[.int .i64 0, .slice none 0 0, .slice none 0 0] 27)) (.cells #[.int .i64 0, .slice none 0 0, .slice none 0 0] 27)
    rw [World.size_alloc] at this
    exact this)
  clear hs
  go_enter Tryd.func5, Tryd.ntmps5
  go_upto_region 2 with fail
  generalize (w.alloc (.cells #[.int .i64 0, .slice none 0 0, .slice none 0 0] 27)).alloc (.cells #[.int .i64 0, .slice none 0 0, .slice none 0 0] 27) = W0 at *
  generalize hg : w.heap.size = g at *
  have HG := Lib.hid hg
  clear hg
  go_wp2_with fail
  go_loopw [6] (fun t W => ∃ (k : Nat) (v1 : Value) (ns : List Int), k ≤ n ∧ t = .int .i64 k ∧ Hid (NSt k ns) ∧ Hid (TrS w sb g 0 v1 (.slice none 0 0) ns [] W)) (fun t _ => n - (intOf t).toNat)
  case atStart => exact ⟨0, .slice none 0 0, [], by omega, rfl, Lib.hid ⟨by simp, by simp, by simp⟩, H0⟩
  case round =>
    clear H0
    obtain ⟨k, v1, ns, hk, rfl, hN, hS⟩ := hrel
    by_cases hlt : k < n
    · go_wp2_with fail
      refine (N_run _ _ _ (by omega) (by omega) hS.out.src).mono ?_
      rintro e W1 ⟨r, hr0, hr1, rfl, hs1, hg1⟩
      have H1 := Lib.hid (hS.out.grown hs1 hg1)
      clear hs1 hg1 hS
      by_cases hr : 0 < r
      · obtain ⟨o0, o1, o2⟩ := H1.out.out.cs
        have of1 := H1.out.out.fr 1
        have hol := H1.out.out.lt
        have hrow := H1.out.own
        have HOB := Lib.hid (fun (q : Nat) (hq : v1.ownBlock = some q) => (hrow.lt q hq).1)
        have hnl : ns.length ≤ 10 := by have := hN.out.2.2; omega
        have hO := Lib.hid H1.out.out
        go_wp2_with (at_builtin; refine wpList_append_own _ rfl _ _ 22 rfl (g + 1 + 1) 3 i0 (.int .i64 0) 1 8 Tryd.underlying22 hi hz0 hz1 hz2 rfl (by decide) _ _ _ rfl (hrow.alloc _) ⟨W1.heap.size, 0, none⟩ 1 1 [.int .i64 k] rfl rfl (cell_one_new _ _ _) (fun u hu => by simp at hu; subst hu; rfl) (by unfold maxLen; omega) (by omega) (by simp; omega) ?_; intro v' W2 hown' hgrow hnil; obtain ⟨gq, cq, rfl, hgq, hlq⟩ := hown'.form (by omega); have hO3 := hO.out.keep ((hgrow.block _ (by simp; omega) (fun e => by have := HOB.out _ e.symm; omega)).trans (Below.heap_alloc _ _ _ hol)); obtain ⟨p0, p1, p2⟩ := hO3.cs; have pf1 := hO3.fr 1)
        have hlow : ∀ q, q < g + 1 + 1 → W2.heap[q]? = W1.heap[q]? := fun q hq => (hgrow.block q (by simp; omega) (fun e => by have := HOB.out _ e.symm; omega)).trans (Below.heap_alloc _ _ _ (by omega))
        have H3 := Lib.hid (show TrS w sb g 0 (.slice (some ⟨gq, 0, none⟩) (ns.length + 1) cq) (.slice none 0 0) (ns ++ [(k : Int)]) [] (W2.setCell ⟨g + 1, 1, none⟩ (.slice (some ⟨gq, 0, none⟩) (ns.length + 1) cq)) from by
          have hlo := H1.out.lo
          refine ⟨hO3.set1 _, H1.out.res.keep ((Below.heap_setCell _ _ _ _ (by simp)).trans (hlow g (by omega))), ?_, Inner.nil _ _ _, (SrcOk.low H1.out.src (fun q hq => hlow q (by omega))).setCell (by simp; omega) _, gset (gown (grown_trans H1.out.gr (grown_below (balloc (bref W1) _))) hgrow (fun q hq => by have := HOB.out q hq; have := H1.out.eq; omega)) (p := ⟨g + 1, 1, none⟩) (by have := H1.out.eq; simp; omega) _, hlo, H1.out.eq⟩
          rw [List.length_append, List.map_append]
          exact hown'.kept (gset1 W2 ⟨g + 1, 1, none⟩ _) (.inr (by simp [Value.ownBlock]; omega)))
        have HN := Lib.hid hN.out.snoc
        clear hrow hown' hgrow hnil hO3 hlow hO H1 HOB hN
        go_roundw
        case rel => exact ⟨k + 1, _, ns ++ [(k : Int)], by omega, by go_num, HN, H3⟩
        case measure => simp [intOf]; omega
      · have HN := Lib.hid hN.out.up
        go_wp2_with fail
        go_roundw
        case rel => exact ⟨k + 1, v1, ns, by omega, by go_num, HN, H1⟩
        case measure => simp [intOf]; omega
    · obtain rfl : k = n := by omega
      obtain ⟨A1, k1, hv⟩ := own_slice hS.out.own
      subst hv
      obtain ⟨o0, o1, o2⟩ := hS.out.out.cs
      have of1 := hS.out.out.fr 1
      have hol := hS.out.out.lt
      go_upto_if 25 with fail
      go_cut [26] (fun a W => ∃ (A1 : Option Addr) (k1 : Nat) (ns : List Int), 1 ≤ ns.length ∧ Hid (NSt k ns) ∧ Hid (TrS w sb g 0 (.slice A1 ns.length k1) (.slice none 0 0) ns [] W))
      case first =>
        by_cases h0 : ns.length = 0
        · have e0 : ((ns.length : Int) == 0) = true := by rw [h0]; rfl
          have HN0 := Lib.hid h0
          clear h0
          go_wp2_with fail
          refine (N_run _ _ _ (by omega) (by omega) hS.out.src).mono ?_
          rintro e W1 ⟨r, hr0, hr1, rfl, hs1, hg1⟩
          have H1 := Lib.hid (hS.out.grown hs1 hg1)
          clear hs1 hg1 hS o0 o1 o2 of1 hol
          obtain ⟨o0, o1, o2⟩ := H1.out.out.cs
          have of1 := H1.out.out.fr 1
          have hol := H1.out.out.lt
          have hsz : (W1.setCell ⟨g + 1, 1, none⟩ (.slice (some ⟨W1.heap.size, 0, none⟩) 1 1)).heap.size = W1.heap.size := by simp [World.setCell]
          have H2 := Lib.hid (show TrS w sb g 0 (.slice (some ⟨W1.heap.size, 0, none⟩) 1 1) (.slice none 0 0) [r] [] ((W1.setCell ⟨g + 1, 1, none⟩ (.slice (some ⟨W1.heap.size, 0, none⟩) 1 1)).alloc (.cells #[.int .i64 r] 3)) from by
            have hlo := H1.out.lo
            have hb := balloc (bref (W1.setCell ⟨g + 1, 1, none⟩ (.slice (some ⟨W1.heap.size, 0, none⟩) 1 1))) (.cells #[.int .i64 r] 3)
            have hw := own_one (w := W1.setCell ⟨g + 1, 1, none⟩ (.slice (some ⟨W1.heap.size, 0, none⟩) 1 1)) (B := g + 1 + 1) r (by omega)
            rw [hsz] at hw
            exact ⟨(H1.out.out.set1 _).keep (Below.heap_alloc _ _ _ (by omega)), H1.out.res.keep ((Below.heap_alloc _ _ _ (by omega)).trans (Below.heap_setCell _ _ _ _ (by simp))), hw, Inner.nil _ _ _, (H1.out.src.setCell (by simp; omega) _).alloc _, grown_trans (gset H1.out.gr (p := ⟨g + 1, 1, none⟩) (by have := H1.out.eq; simp; omega) _) (grown_below hb), hlo, H1.out.eq⟩)
          clear hsz
          have HN := Lib.hid (show NSt k [r] from ⟨fun x hx => by rw [List.mem_singleton] at hx; omega, by simp, by simp; omega⟩)
          go_wp2_with fail
          go_meet
          exact ⟨_, _, [r], by simp, HN, H2⟩
        · have e0 : ((ns.length : Int) == 0) = false := by rw [beq_eq_false_iff_ne]; omega
          go_wp2_with fail
          go_meet
          exact ⟨_, _, ns, by omega, hN, hS⟩
      case rest =>
        obtain ⟨A1, k1, ns, hl1, hN, hS⟩ := hcut
        clear o0 o1 o2 of1 hol
        go_wp2_with fail
        refine (N_run _ _ _ (by omega) (by omega) hS.out.src).mono ?_
        rintro e W1 ⟨r, hr0, hr1, rfl, hs1, hg1⟩
        have H1 := Lib.hid (hS.out.grown hs1 hg1)
        clear hs1 hg1 hS
        go_upto_if 33 with fail
        go_cut [34] (fun a W => ∃ (A1 A2 : Option Addr) (k1 k2 : Nat) (ns : List Int) (is : List Tree), 1 ≤ ns.length ∧ is.length ≤ 1 ∧ Hid (NSt k ns) ∧ Hid (∀ T ∈ is, ∃ j : Int, 0 ≤ j ∧ j < (k : Int) ∧ T = .mk 1 [j] []) ∧ Hid (TrS w sb g 0 (.slice A1 ns.length k1) (.slice A2 is.length k2) ns is W))
        case first =>
          by_cases h3 : r = 3
          · have e3 : (r == 3) = true := by rw [beq_iff_eq]; exact h3
            clear h3
            go_wp2_with fail
            obtain ⟨o0, o1, o2⟩ := H1.out.out.cs
            have of2 := H1.out.out.fr 2
            have hol := H1.out.out.lt
            have hlo := H1.out.lo
            go_region_law (first
              | (go_simp; go_at_call 6; refine (N_run _ _ _ (by omega) (by omega) (by exact H1.out.src)).mono ?_; rintro e W2 ⟨j, hj0, hj1, rfl, hs2, hg2⟩; have hgr2 : W1.grownBy W2 (some sb) := ⟨hg2.os, hg2.tape, hg2.output, hg2.size, hg2.block⟩; have hgz := hgr2.size; have hO2 : OutAt W2 (g + 1) 0 (.slice A1 ns.length k1) (.slice none 0 0) := H1.out.out.keep (hgr2.block _ hol (by simp; omega)); obtain ⟨p0, p1, p2⟩ := hO2.cs; have hol2 := hO2.lt; have hol3 : g + 1 < W2.heap.size + 1 := by omega)
              | (refine step_append_lies _ (by rfl) _ _ _ (by rfl) (g + 1 + 1) 27 i3 (.agg #[.int .i64 0, .slice none 0 0, .slice none 0 0]) 3 56 Tryd.underlying25 hi3 hy0 hy1 hy2 rfl (by decide) (.slice none 0 0) 0 [] (by rfl) (by exact World.ownsRow_nil _ _ _ _) ⟨W2.heap.size + 1, 0, none⟩ 1 1 [.int .i64 1, .slice (some ⟨W2.heap.size, 0, none⟩) 1 1, .slice none 0 0] (by rfl) rfl (by have := cell_three_new (W2.alloc (.cells #[.int .i64 j] 3)) (.int .i64 1) (.slice (some ⟨W2.heap.size, 0, none⟩) 1 1) (.slice none 0 0) 27; rw [World.size_alloc] at this; exact this) (by intro u hu; simp at hu; rcases hu with rfl | rfl | rfl <;> rfl) (by omega) (by unfold maxLen; omega) (by omega) (by simp; omega) _ rfl ?_; intro g3 cap3 W3 hown3 hgrow3 hat3 hlt3; have hO3 : OutAt W3 (g + 1) 0 (.slice A1 ns.length k1) (.slice none 0 0) := hO2.keep ((hgrow3.block _ (by simp; omega) (by simp [Value.ownBlock])).trans ((Below.heap_alloc _ _ _ (by simp; omega)).trans (Below.heap_alloc _ _ _ hol2))); obtain ⟨r0, r1, r2⟩ := hO3.cs; have rf2 := hO3.fr 2))
            all_goals
              have hbA := balloc (balloc (bref W2) (.cells #[.int .i64 j] 3)) (.cells #[.int .i64 1, .slice (some ⟨W2.heap.size, 0, none⟩) 1 1, .slice none 0 0] 27)
              have hgB : ((W2.alloc (.cells #[.int .i64 j] 3)).alloc (.cells #[.int .i64 1, .slice (some ⟨W2.heap.size, 0, none⟩) 1 1, .slice none 0 0] 27)).grownBy W3 (Value.slice none 0 0).ownBlock := ⟨hgrow3.os, hgrow3.tape, hgrow3.output, hgrow3.size, hgrow3.block⟩
              have hTT : TAt (fun b => g + 1 + 1 ≤ b ∧ (Value.slice none 0 0).ownBlock ≠ some b) 1 ((W2.alloc (.cells #[.int .i64 j] 3)).alloc (.cells #[.int .i64 1, .slice (some ⟨W2.heap.size, 0, none⟩) 1 1, .slice none 0 0] 27)) (.int .i64 1) (.slice (some ⟨W2.heap.size, 0, none⟩) 1 1) (.slice none 0 0) (.mk 1 [j] []) :=
                made (B := W2.heap.size) (fun b hb => ⟨by omega, by simp [Value.ownBlock]⟩) (by simp) (by simp) ((own_one j (Nat.le_refl _)).alloc _) (Inner.nil _ _ _)
              have hI := Inner.append (is := []) (cs := []) (fun k T hT => by simp at hT) rfl hTT hown3 hgB (by simpa using hat3)
              have hlow : ∀ q, q < g + 1 + 1 → q ≠ sb → W3.heap[q]? = W1.heap[q]? := fun q hq hne => (hgB.block q (by simp; omega) (by simp [Value.ownBlock])).trans ((hbA.block q (by omega)).trans (hgr2.block q (by omega) (by simpa using hne)))
              have H5 := Lib.hid (show TrS w sb g 0 (.slice A1 ns.length k1) (.slice (some ⟨g3, 0, none⟩) 1 cap3) ns [.mk 1 [j] []] (W3.setCell ⟨g + 1, 2, none⟩ (.slice (some ⟨g3, 0, none⟩) 1 cap3)) from by
                refine ⟨hO3.set2 _, H1.out.res.keep ((Below.heap_setCell _ _ _ _ (by simp)).trans (hlow g (by omega) (by omega))), ?_, hI.setLow (p := ⟨g + 1, 2, none⟩) (by simp) _, ?_, ?_, hlo, H1.out.eq⟩
                · exact (((H1.out.own.kept hgr2 (own_below H1.out.own (by omega))).kept (grown_below (r := none) hbA) (own_any _)).kept hgB (own_any _)).kept (gset1 W3 ⟨g + 1, 2, none⟩ _) (own_below H1.out.own (by simp))
                · exact (SrcOk.low (hs2.below hbA) (fun q hq => hgB.block q (by simp; omega) (by simp [Value.ownBlock]))).setCell (by simp; omega) _
                · exact gset (gown (grown_trans (grown_trans H1.out.gr hgr2) (grown_below hbA)) hgB (fun q hq => by simp [Value.ownBlock] at hq)) (p := ⟨g + 1, 2, none⟩) (by have := H1.out.eq; simp; omega) _)
              have HWi := Lib.hid (show ∀ T ∈ [Tree.mk 1 [j] []], ∃ j : Int, 0 ≤ j ∧ j < (k : Int) ∧ T = .mk 1 [j] [] from fun T hT => ⟨j, hj0, hj1, by simpa using hT⟩)
              clear hTT hI hlow hown3 hgrow3 hat3 hlt3 hO3 r0 r1 r2 rf2 hgB hbA hgr2 hO2 p0 p1 p2 hs2 hg2 o0 o1 o2 of2
              go_wp2_with fail
              go_meet
              exact ⟨_, _, _, _, ns, [.mk 1 [j] []], hl1, by simp, hN, HWi, H5⟩
          · have e3 : (r == 3) = false := by rw [beq_eq_false_iff_ne]; exact h3
            go_wp2_with fail
            go_meet
            exact ⟨_, none, _, 0, ns, [], hl1, by simp, hN, Lib.hid (by simp), H1⟩
        case rest =>
          obtain ⟨A1, A2, k1, k2, ns, is, hl1, hi1, hN, hW, hS⟩ := hcut
          obtain ⟨o0, o1, o2⟩ := hS.out.out.cs
          have of0 := hS.out.out.fr 0
          have hol := hS.out.out.lt
          have hnl : ns.length ≤ 10 := by have := hN.out.2.2; omega
          go_wp2_with fail
          refine (Range_run _ _ _ _ (by omega) (by omega) (by omega) hS.out.src).mono ?_
          rintro e W2 ⟨t, ht0, ht1, rfl, hs1, hg1⟩
          have H2 := Lib.hid (hS.out.grown hs1 hg1)
          clear hs1 hg1 hS o0 o1 o2 of0 hol
          obtain ⟨o0, o1, o2⟩ := H2.out.out.cs
          have of0 := H2.out.out.fr 0
          have hol := H2.out.out.lt
          go_upto_region 13 with fail
          have H3 := Lib.hid (H2.out.set0 t)
          clear o0 o1 o2 of0 hol H2
          generalize W2.setCell ⟨g + 1, 0, none⟩ (.int .i64 t) = W3 at *
          go_wp2_with fail
          refine (N_run _ _ _ (by omega) (by omega) H3.out.src).mono ?_
          rintro e W4 ⟨r6, hr6, hr7, rfl, hs1, hg1⟩
          have H4 := Lib.hid (H3.out.grown hs1 hg1)
          clear hs1 hg1 H3
          have ht0' : 1 ≤ t := by omega
          have ht1' : t ≤ ((ns.length + is.length : Nat) : Int) := by push_cast; omega
          by_cases h5 : r6 = 5
          · have e5 : (r6 == 5) = true := by rw [beq_iff_eq]; exact h5
            clear h5
            obtain ⟨o0, o1, o2⟩ := H4.out.out.cs
            have of0 := H4.out.out.fr 0
            have hol := H4.out.out.lt
            go_upto_region 15 with fail
            have H5 := Lib.hid (H4.out.set0 1)
            clear o0 o1 o2 of0 hol H4
            generalize W4.setCell ⟨g + 1, 0, none⟩ (.int .i64 1) = W5 at *
            obtain ⟨o0, o1, o2⟩ := H5.out.out.cs
            obtain ⟨r0, r1, r2⟩ := H5.out.res.cs
            have rf0 := H5.out.res.fr 0
            have rf1 := H5.out.res.fr 1
            have rf2 := H5.out.res.fr 2
            have hol := H5.out.out.lt
            go_wp2_with fail
            have HE := H5.out.fin
            refine bodyPost_ret (v := .agg #[.int .i64 1, .slice A1 ns.length k1, .slice A2 is.length k2]) ?_ rfl ⟨_, _, _, _, _, _, _, .mk 1 ns is, rfl, HE.1, fine_made hn hN.out hi1 hW.out (by omega) (by omega), HE.2.1, HE.2.2⟩
            simp [results, Tryd.results5, go_sem, r0, r1, r2]
          · have e5 : (r6 == 5) = false := by rw [beq_eq_false_iff_ne]; exact h5
            clear h5
            obtain ⟨o0, o1, o2⟩ := H4.out.out.cs
            obtain ⟨r0, r1, r2⟩ := H4.out.res.cs
            have rf0 := H4.out.res.fr 0
            have rf1 := H4.out.res.fr 1
            have rf2 := H4.out.res.fr 2
            have hol := H4.out.out.lt
            go_wp2_with fail
            have HE := H4.out.fin
            refine bodyPost_ret (v := .agg #[.int .i64 t, .slice A1 ns.length k1, .slice A2 is.length k2]) ?_ rfl ⟨_, _, _, _, _, _, _, .mk t ns is, rfl, HE.1, fine_made hn hN.out hi1 hW.out ht0' ht1', HE.2.1, HE.2.2⟩
            simp [results, Tryd.results5, go_sem, r0, r1, r2]

end Go.Proofs.YtoceogdpkfcghaaDoor
