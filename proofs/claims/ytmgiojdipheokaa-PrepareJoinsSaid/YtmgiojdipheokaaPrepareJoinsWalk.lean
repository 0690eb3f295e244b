/- The walk of PrepareJoins: what joining keeps. -/
import Derived.Test.YtmgiojdipheokaaSane25
import Derived.Test.YtmgiojdipheokaaBalList
import Derived.Test.YtmgiojdipheokaaJoinMath
namespace Go.Proofs.Ytmgiojdipheokaa
set_option linter.unusedVariables false
set_option linter.unusedSimpArgs false
open Go.RowKit

theorem flatB_snoc (L : List (Int × Nat)) (c : Int) (i : Nat) : flatB L ++ [Value.int .i64 c, Value.string (valOf i)] = flatB (L ++ [(c, i)]) := by rw [flatB_append]; rfl
theorem own_snoc {w : World} {v : Value} {B : Nat} {L : List (Int × Nat)} {c : Int} {i : Nat} (h : w.ownsRow B 26 2 v (L.length + 1) (flatB L ++ [Value.int .i64 c, Value.string (valOf i)])) :
    w.ownsRow B 26 2 v (L ++ [(c, i)]).length (flatB (L ++ [(c, i)])) := by
  rw [flatB_snoc] at h
  simpa using h
theorem SrcOk.upto {w w' : World} {sb : Nat} (h : SrcOk w sb) (hk : ∀ k, k ≤ sb → w'.heap[k]? = w.heap[k]?) : SrcOk w' sb := by
  obtain ⟨a, len, cap, at_, hb, h1, h2, h3, h4⟩ := h
  refine ⟨a, len, cap, at_, (hk _ (Nat.le_refl _)).trans hb, h1, h2, h3, fun i hi => ?_⟩
  obtain ⟨b, off, z, e1, e2, e3, e4⟩ := h4 i hi
  exact ⟨b, off, z, e1, e2, (World.cell?_of_block (hk b (by omega))).trans e3, e4⟩

/-- What holds of the world of the law. -/
structure PJ (w : World) (g : Nat) (c : Int) (i : Nat) (d : Int) (j : Nat) (v : Value) (L : List (Int × Nat)) (W : World) : Prop where
  src : SrcOk W w.heap.size
  p : BalAt W g c i
  q : BalAt W (g + 1) d j
  row : W.ownsRow (g + 1 + 1) 26 2 v L.length (flatB L)
  bel : Below w.heap.size w W
  lo : w.heap.size < g
theorem own_any (v : Value) : v.ownBlock = none ∨ v.ownBlock ≠ none := by
  cases v.ownBlock with
  | none => exact .inl rfl
  | some q => exact .inr (by simp)
theorem PJ.bel' {w W W' : World} {g : Nat} {c d : Int} {i j : Nat} {v : Value} {L : List (Int × Nat)} (h : PJ w g c i d j v L W) (hb : Below W.heap.size W W') : PJ w g c i d j v L W' :=
  ⟨h.src.below hb, h.p.below hb, h.q.below hb, h.row.kept (grown_below (r := none) hb) (own_any v), bstep h.bel hb, h.lo⟩
theorem PJ.grown {w W W' : World} {g : Nat} {c d : Int} {i j : Nat} {v : Value} {L : List (Int × Nat)} (h : PJ w g c i d j v L W) (hs : SrcOk W' w.heap.size) (hg : W.grownBy W' (some w.heap.size)) : PJ w g c i d j v L W' :=
  ⟨hs, h.p.grown hg (by have := h.lo; omega), h.q.grown hg (by have := h.lo; omega), h.row.kept hg (own_below h.row (by have := h.lo; omega)), bgrown h.bel hg (Nat.le_refl _), h.lo⟩
/-- Behind the stores of the prepared ballot and the prime. -/
theorem PJ.store {w W : World} {g : Nat} {c d : Int} {i j : Nat} {v : Value} {L : List (Int × Nat)} (h : PJ w g c i d j v L W) (c' d' : Int) (i' j' : Nat) :
    PJ w g c' i' d' j' v L ((((W.setCell ⟨g, 0, none⟩ (.int .i64 c')).setCell ⟨g, 1, none⟩ (.string (valOf i'))).setCell ⟨g + 1, 0, none⟩ (.int .i64 d')).setCell ⟨g + 1, 1, none⟩ (.string (valOf j'))) := by
  have hlo := h.lo
  refine ⟨?_, ?_, ?_, ?_, ?_, h.lo⟩
  · exact (((h.src.setCell (by simpa using hlo) _).setCell (by simpa using hlo) _).setCell (by simp; omega) _).setCell (by simp; omega) _
  · exact ((h.p.store c' i').far (by simp) _).far (by simp) _
  · exact ((h.q.far (p := ⟨g, 0, none⟩) (by simp) _).far (p := ⟨g, 1, none⟩) (by simp) _).store d' j'
  · exact (((h.row.kept (gset1 _ ⟨g, 0, none⟩ _) (own_below h.row (by simp; omega))).kept (gset1 _ ⟨g, 1, none⟩ _) (own_below h.row (by simp; omega))).kept (gset1 _ ⟨g + 1, 0, none⟩ _) (own_below h.row (by simp))).kept (gset1 _ ⟨g + 1, 1, none⟩ _) (own_below h.row (by simp))
  · exact bset (bset (bset (bset h.bel (p := ⟨g, 0, none⟩) (by simp; omega) _) (p := ⟨g, 1, none⟩) (by simp; omega) _) (p := ⟨g + 1, 0, none⟩) (by simp; omega) _) (p := ⟨g + 1, 1, none⟩) (by simp; omega) _
theorem PJ.cs {w W : World} {g : Nat} {c d : Int} {i j : Nat} {v : Value} {L : List (Int × Nat)} (h : PJ w g c i d j v L W) :
    (W.cell? ⟨g, 0, none⟩ = some (.int .i64 c) ∧ W.cell? ⟨g, 1, none⟩ = some (.string (valOf i))) ∧ (W.cell? ⟨g + 1, 0, none⟩ = some (.int .i64 d) ∧ W.cell? ⟨g + 1, 1, none⟩ = some (.string (valOf j))) := ⟨h.p.cs, h.q.cs⟩

set_option maxRecDepth 100000 in
set_option maxHeartbeats 4000000 in
theorem walkPrepareJoins (a0 : Option Addr) (len0 cap0 : Nat) (z0 : List Int) (w : World) (w0 : IsRow .i64 w a0 len0 cap0 z0) :
    Calls Try.prog 3 #[.slice a0 len0 cap0] w fun e w' => e = .returned (.bool true) ∧ Below w.heap.size w w' := by
  obtain ⟨i0, hi, hz0, hz1, hz2⟩ := info_parts infoBal
  have HR := Lib.hid w0
  clear w0
  go_enter Try.func3, Try.ntmps3
  go_wp2_with fail
  refine (New_run _ _ _ _ _ HR.out).mono ?_
  rintro e v0 ⟨rfl, hs0, hb0⟩
  have hlo := hs0.lt
  have H0 := Lib.hid (show PJ w v0.heap.size 0 0 0 0 (.slice none 0 0) [] ((v0.alloc (.cells #[.int .i64 0, .string ⟨#[]⟩] 26)).alloc (.cells #[.int .i64 0, .string ⟨#[]⟩] 26)) from
    ⟨(hs0.alloc _).alloc _, (BalAt.new v0 0 0).alloc _, by have := BalAt.new (v0.alloc (.cells #[.int .i64 0, .string ⟨#[]⟩] 26)) 0 0; rw [World.size_alloc] at this; exact this, World.ownsRow_nil _ _ _ _, balloc (balloc hb0 _) _, hlo⟩)
  clear hs0 hb0
  go_upto_region 4 with fail
  generalize (v0.alloc (.cells #[.int .i64 0, .string ⟨#[]⟩] 26)).alloc (.cells #[.int .i64 0, .string ⟨#[]⟩] 26) = W0 at *
  generalize v0.heap.size = g at *
  go_wp2_with fail
  refine (N_run _ _ _ (by omega) (by omega) H0.out.src).mono ?_
  rintro e W1 ⟨r, hr0, hr1, rfl, hs1, hg1⟩
  obtain ⟨m, rfl⟩ := Int.eq_ofNat_of_zero_le hr0
  have H1 := Lib.hid (H0.out.grown hs1 hg1)
  have hm8 : m < 8 := by omega
  clear hs1 hg1 H0 hr0 hr1
  go_wp2_with fail
  go_loopw [6, 7] (fun v t wr => ∃ (k : Nat) (L : List (Int × Nat)) (c d : Int) (i j : Nat), k ≤ m ∧ t = .int .i64 k ∧ Hid (L.length + k = m) ∧ Hid (InvJ c i d j L) ∧ Hid (PJ w g c i d j v L wr)) (fun _ t _ => (intOf t).toNat)
  case atStart => exact ⟨m, [], 0, 0, 0, 0, Nat.le_refl _, rfl, Lib.hid (by simp), Lib.hid ⟨.inl ⟨rfl, rfl, rfl, rfl, rfl⟩, by simp⟩, H1⟩
  case round =>
    clear H1
    obtain ⟨k, L, c, d, i, j, hk, rfl, hL, hI, hPJ⟩ := hrel
    by_cases hlt : 0 < k
    · go_wp2_with fail
      refine (Low_run _ _ hPJ.out.src).mono ?_
      rintro e W2 ⟨f, y, hf0, hf1, hy0, hy1, rfl, hs2, hg2⟩
      have H2 := hPJ.out.grown hs2 hg2
      obtain ⟨c', i', d', j', hJ, hI', hc1, hi1⟩ := inv_step hI.out hf0 hf1 hy0 hy1
      have HI' := Lib.hid hI'
      have hbI := hI.out.bd
      have H3 := Lib.hid (H2.bel' (balloc (bref W2) (.cells #[.int .i64 f, .string (valOf y)] 26)))
      have HB3 := Lib.hid (BalAt.new W2 f y)
      have hgl := H2.q.lt
      clear hs2 hg2 H2 hI hPJ hI'
      go_upto_region 8 with fail
      generalize W2.alloc (.cells #[.int .i64 f, .string (valOf y)] 26) = W3 at *
      generalize W2.heap.size = r at *
      obtain ⟨⟨p0, p1⟩, ⟨q0, q1⟩⟩ := H3.out.cs
      obtain ⟨b0, b1⟩ := HB3.out.cs
      have hjr := join_run c i d j f y W3 hbI.1 hbI.2.1 (by omega)
      clear hbI
      rw [hJ] at hjr
      simp only [balV] at hjr
      have HJR := Lib.hid hjr
      clear hjr hJ
      go_wp2_with fail
      refine HJR.out.mono ?_
      rintro e W4 ⟨rfl, hb4⟩
      have H4 := Lib.hid (H3.out.bel' hb4)
      have HB4 := Lib.hid (HB3.out.below hb4)
      clear p0 p1 q0 q1 b0 b1 hb4 H3 HB3 HJR
      obtain ⟨⟨p0, p1⟩, ⟨q0, q1⟩⟩ := H4.out.cs
      have pf := H4.out.p.fr
      have qf := H4.out.q.fr
      have pf0 := pf 0
      have pf1 := pf 1
      have qf0 := qf 0
      have qf1 := qf 1
      clear pf qf
      have hg4 := H4.out.q.lt
      go_upto_region 9 with fail
      have H5 := Lib.hid (H4.out.store c' d' i' j')
      have HB5 := Lib.hid (show BalAt ((((W4.setCell ⟨g, 0, none⟩ (.int .i64 c')).setCell ⟨g, 1, none⟩ (.string (valOf i'))).setCell ⟨g + 1, 0, none⟩ (.int .i64 d')).setCell ⟨g + 1, 1, none⟩ (.string (valOf j'))) r f y from ((((HB4.out.far (by simp; omega) _).far (by simp; omega) _).far (by simp; omega) _).far (by simp; omega) _))
      clear p0 p1 q0 q1 pf0 pf1 qf0 qf1 H4 HB4
      generalize (((W4.setCell ⟨g, 0, none⟩ (.int .i64 c')).setCell ⟨g, 1, none⟩ (.string (valOf i'))).setCell ⟨g + 1, 0, none⟩ (.int .i64 d')).setCell ⟨g + 1, 1, none⟩ (.string (valOf j')) = W5 at *
      obtain ⟨b0, b1⟩ := HB5.out.cs
      have hrow := H5.out.row
      have hr5 := HB5.out.lt
      have HOB := Lib.hid (fun (q : Nat) (hq : u6.ownBlock = some q) => (hrow.lt q hq).1)
      have hg5 := H5.out.q.lt
      have hLl : L.length < 8 := by have := hL.out; omega
      go_upto_region 10 with (at_builtin; refine wpList_append_own _ rfl _ _ 27 rfl (g + 1 + 1) 26 i0 (.agg #[.int .i64 0, .string ⟨#[]⟩]) 2 24 Try.underlying27 hi hz0 hz1 hz2 rfl (by decide) _ _ _ rfl (hrow.alloc _) ⟨W5.heap.size, 0, none⟩ 1 1 [.int .i64 f, .string (valOf y)] rfl rfl (cell_two_new _ _ _ _) (fun u hu => by simp at hu; rcases hu with rfl | rfl <;> rfl) (by unfold maxLen; omega) (by omega) (by simp; omega) ?_; intro v' W6 hown' hgrow hnil; obtain ⟨gq, cq, rfl, hgq, hlq⟩ := hown'.form (by omega))
      have hlow : ∀ q, q < g + 1 + 1 → W6.heap[q]? = W5.heap[q]? := fun q hq => (hgrow.block q (by simp; omega) (fun e => by have := HOB.out _ e.symm; omega)).trans (Below.heap_alloc _ _ _ (by omega))
      have hlen : (L ++ [(f, y)]).length = L.length + 1 := by simp
      have H6 : PJ w g c' i' d' j' (.slice (some ⟨gq, 0, none⟩) (L.length + 1) cq) (L ++ [(f, y)]) W6 :=
        ⟨H5.out.src.upto (fun k hk => hlow k (by have := H5.out.lo; omega)), (hlow g (by omega)).trans H5.out.p, (hlow (g + 1) (by omega)).trans H5.out.q, own_snoc hown',
          Below.grown (balloc H5.out.bel (.cells #[.int .i64 f, .string (valOf y)] 26)) hgrow (by have := H5.out.bel.size; simp; omega) (fun q hq => by have := HOB.out q hq; have := H5.out.lo; omega), H5.out.lo⟩
      have HL6 := Lib.hid (show (L ++ [(f, y)]).length + (k - 1) = m by have := hL.out; omega)
      have hLL : L.length + 1 ≤ 8 := by omega
      have HLE := Lib.hid hlen
      have H6' := Lib.hid H6
      generalize L ++ [(f, y)] = M at *
      clear hrow HOB hown' hgrow hlow hlen H6 H5 HB5 b0 b1 hr5 hg5
      obtain ⟨⟨p0, p1⟩, ⟨q0, q1⟩⟩ := H6'.out.cs
      have hzp : zeroB c' i' = false := by unfold zeroB; simp; omega
      have HRel : Hid (∀ x ∈ M, 1 ≤ x.1 ∧ x.1 ≤ 6 ∧ 1 ≤ x.2 ∧ x.2 ≤ 4 ∧ prepB c' i' d' j' x.1 x.2 = true) := Lib.hid HI'.out.2
      obtain ⟨hi4, hj4, hbd⟩ := HI'.out.bd
      rcases hbd with hz | ⟨hz, hl, he⟩
      · go_wp2_with fail
        refine (rzero_run _ _ _ hi4).mono ?_
        rintro e W7 ⟨rfl, hb7⟩
        have H7 := Lib.hid (H6'.out.bel' hb7)
        clear hb7 p0 p1 q0 q1 H6'
        obtain ⟨⟨p0, p1⟩, ⟨q0, q1⟩⟩ := H7.out.cs
        rw [hzp]
        go_wp2_with fail
        refine (rzero_run _ _ _ hj4).mono ?_
        rintro e W8 ⟨rfl, hb8⟩
        have H8 := Lib.hid (H7.out.bel' hb8)
        clear hb8 p0 p1 q0 q1 H7
        rw [hz]
        clear hzp hz
        go_upto_region 12 with fail
        go_wp2_with fail
        go_loopw [52] (fun t W => ∃ q : Nat, q ≤ L.length + 1 ∧ t = .int .i64 q ∧ Hid (PJ w g c' i' d' j' (.slice (some ⟨gq, 0, none⟩) (L.length + 1) cq) M W)) (fun t _ => L.length + 1 - (intOf t).toNat)
        case atStart => exact ⟨0, by omega, rfl, H8⟩
        case round =>
          clear H8
          obtain ⟨q, hq, rfl, hM⟩ := hrel
          by_cases hlt2 : q < L.length + 1
          · obtain ⟨x, hx⟩ : ∃ x, M[q]? = some x := ⟨_, List.getElem?_eq_getElem (by rw [HLE.out]; exact hlt2)⟩
            obtain ⟨x0, x1, y0, y1, hpp⟩ := HRel.out x (List.mem_of_getElem? hx)
            obtain ⟨x, z⟩ := x
            obtain ⟨AA, cc, hv, _, hcells⟩ := ListAt.of_own hM.out.row (by rw [HLE.out]; omega)
            obtain ⟨b', off', hA, cl0, cl1⟩ := hcells q (x, z) hx
            simp only [Value.slice.injEq] at hv
            obtain ⟨hv1, hv2, hv3⟩ := hv
            clear hv2 hv3
            rw [← hv1] at hA
            obtain ⟨rfl, rfl⟩ : gq = b' ∧ 0 = off' := by simpa using hA
            simp only [Nat.zero_add] at cl0 cl1 x0 x1 y0 y1 hpp
            have hi2 : (q : Int) < ((L.length + 1 : Nat) : Int) := by omega
            have HM2 := Lib.hid (hM.out.bel' (balloc (bref wr) (.cells #[.int .i64 x, .string (valOf z)] 26)))
            have HX2 := Lib.hid (BalAt.new wr x z)
            have HPP := Lib.hid hpp
            clear hA hv1 hcells hx hM hpp
            obtain ⟨⟨p0, p1⟩, ⟨q0, q1⟩⟩ := HM2.out.cs
            obtain ⟨b0, b1⟩ := HX2.out.cs
            go_upto_region 15 with fail
            generalize wr.alloc (.cells #[.int .i64 x, .string (valOf z)] 26) = W11 at *
            generalize wr.heap.size = r11 at *
            go_wp2_with fail
            refine (rprepares_run _ _ _ _ _ _ _ hi4 hj4 y1).mono ?_
            rintro e W12 ⟨rfl, hb12⟩
            have H12 := Lib.hid (HM2.out.bel' hb12)
            clear hb12 p0 p1 q0 q1 b0 b1 HM2 HX2
            rw [HPP.out]
            go_wp2_with fail
            go_roundw
            case rel => exact ⟨q + 1, by omega, by go_num, H12⟩
            case measure => simp [intOf]; omega
          · obtain rfl : q = L.length + 1 := by omega
            go_wp2_with fail
            go_roundw
            case rel => exact ⟨k - 1, M, c', d', i', j', by omega, by go_num, HL6, HI', hM⟩
            case measure => simp [intOf]; omega
      · go_wp2_with fail
        refine (rzero_run _ _ _ hi4).mono ?_
        rintro e W7 ⟨rfl, hb7⟩
        have H7 := Lib.hid (H6'.out.bel' hb7)
        clear hb7 p0 p1 q0 q1 H6'
        obtain ⟨⟨p0, p1⟩, ⟨q0, q1⟩⟩ := H7.out.cs
        rw [hzp]
        go_wp2_with fail
        refine (rzero_run _ _ _ hj4).mono ?_
        rintro e W9 ⟨rfl, hb8⟩
        have H9 := Lib.hid (H7.out.bel' hb8)
        clear hb8 p0 p1 q0 q1 H7
        obtain ⟨⟨p0, p1⟩, ⟨q0, q1⟩⟩ := H9.out.cs
        rw [hz]
        go_wp2_with fail
        refine (rless_run _ _ _ _ _ hj4 hi4).mono ?_
        rintro e W10 ⟨rfl, hb8⟩
        have H10 := Lib.hid (H9.out.bel' hb8)
        clear hb8 p0 p1 q0 q1 H9
        obtain ⟨⟨p0, p1⟩, ⟨q0, q1⟩⟩ := H10.out.cs
        rw [hl]
        go_wp2_with fail
        refine (rcompat_run _ _ _ _ _ hj4 hi4).mono ?_
        rintro e W8 ⟨rfl, hb8⟩
        have H8 := Lib.hid (H10.out.bel' hb8)
        clear hb8 p0 p1 q0 q1 H10
        rw [he]
        clear hzp hz hl he
        go_upto_region 12 with fail
        go_wp2_with fail
        go_loopw [52] (fun t W => ∃ q : Nat, q ≤ L.length + 1 ∧ t = .int .i64 q ∧ Hid (PJ w g c' i' d' j' (.slice (some ⟨gq, 0, none⟩) (L.length + 1) cq) M W)) (fun t _ => L.length + 1 - (intOf t).toNat)
        case atStart => exact ⟨0, by omega, rfl, H8⟩
        case round =>
          clear H8
          obtain ⟨q, hq, rfl, hM⟩ := hrel
          by_cases hlt2 : q < L.length + 1
          · obtain ⟨x, hx⟩ : ∃ x, M[q]? = some x := ⟨_, List.getElem?_eq_getElem (by rw [HLE.out]; exact hlt2)⟩
            obtain ⟨x0, x1, y0, y1, hpp⟩ := HRel.out x (List.mem_of_getElem? hx)
            obtain ⟨x, z⟩ := x
            obtain ⟨AA, cc, hv, _, hcells⟩ := ListAt.of_own hM.out.row (by rw [HLE.out]; omega)
            obtain ⟨b', off', hA, cl0, cl1⟩ := hcells q (x, z) hx
            simp only [Value.slice.injEq] at hv
            obtain ⟨hv1, hv2, hv3⟩ := hv
            clear hv2 hv3
            rw [← hv1] at hA
            obtain ⟨rfl, rfl⟩ : gq = b' ∧ 0 = off' := by simpa using hA
            simp only [Nat.zero_add] at cl0 cl1 x0 x1 y0 y1 hpp
            have hi2 : (q : Int) < ((L.length + 1 : Nat) : Int) := by omega
            have HM2 := Lib.hid (hM.out.bel' (balloc (bref wr) (.cells #[.int .i64 x, .string (valOf z)] 26)))
            have HX2 := Lib.hid (BalAt.new wr x z)
            have HPP := Lib.hid hpp
            clear hA hv1 hcells hx hM hpp
            obtain ⟨⟨p0, p1⟩, ⟨q0, q1⟩⟩ := HM2.out.cs
            obtain ⟨b0, b1⟩ := HX2.out.cs
            go_upto_region 15 with fail
            generalize wr.alloc (.cells #[.int .i64 x, .string (valOf z)] 26) = W11 at *
            generalize wr.heap.size = r11 at *
            go_wp2_with fail
            refine (rprepares_run _ _ _ _ _ _ _ hi4 hj4 y1).mono ?_
            rintro e W12 ⟨rfl, hb12⟩
            have H12 := Lib.hid (HM2.out.bel' hb12)
            clear hb12 p0 p1 q0 q1 b0 b1 HM2 HX2
            rw [HPP.out]
            go_wp2_with fail
            go_roundw
            case rel => exact ⟨q + 1, by omega, by go_num, H12⟩
            case measure => simp [intOf]; omega
          · obtain rfl : q = L.length + 1 := by omega
            go_wp2_with fail
            go_roundw
            case rel => exact ⟨k - 1, M, c', d', i', j', by omega, by go_num, HL6, HI', hM⟩
            case measure => simp [intOf]; omega
    · obtain rfl : k = 0 := by omega
      obtain ⟨A, cA, hv, hl9, _⟩ := ListAt.of_own hPJ.out.row (by have := hL.out; omega)
      subst hv
      obtain ⟨⟨p0, p1⟩, ⟨q0, q1⟩⟩ := hPJ.out.cs
      clear hk hlt
      by_cases hl0 : 0 < L.length
      · clear hI
        go_wp2_with fail
        refine (sane25 _).mono ?_
        rintro e W8 ⟨rfl, hb8⟩
        have HE := Lib.hid (bstep hPJ.out.bel hb8)
        clear hb8
        go_wp2_with fail
        go_ret
        exact ⟨rfl, HE.out⟩
      · have hz : zeroB c i = true := by
          obtain ⟨h1 | h1, _⟩ := hI.out
          · rw [zeroJ_iff]; exact ⟨h1.1, h1.2.1⟩
          · exact absurd (List.eq_nil_of_length_eq_zero (show L.length = 0 by omega)) h1.2.2.2.2.2
        have hi4 := hI.out.bd.1
        have hln : ¬ (0 : Int) < (L.length : Int) := by omega
        clear hI
        go_wp2_with fail
        refine (rzero_run _ _ _ hi4).mono ?_
        rintro e W7 ⟨rfl, hb7⟩
        have H7 := Lib.hid (hPJ.out.bel' hb7)
        clear hb7 p0 p1 q0 q1
        rw [hz]
        clear hz
        go_wp2_with fail
        refine (sane25 _).mono ?_
        rintro e W8 ⟨rfl, hb8⟩
        have HE := Lib.hid (bstep H7.out.bel hb8)
        clear hb8
        go_wp2_with fail
        go_ret
        exact ⟨rfl, HE.out⟩
end Go.Proofs.Ytmgiojdipheokaa
