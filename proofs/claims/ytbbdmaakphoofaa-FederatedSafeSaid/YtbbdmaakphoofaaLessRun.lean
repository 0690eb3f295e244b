/- The walk of the reference's less. -/
import Derived.Test.YtbbdmaakphoofaaLess
import Derived.Test.YtbbdmaakphoofaaRestrictRun
namespace Go.Proofs.Ytbbdmaakphoofaa
set_option linter.unusedVariables false
set_option linter.unusedSimpArgs false
open Go.RowKit

set_option maxHeartbeats 400000 in
theorem rlower_run (n : Nat) (hn : n ≤ 1000000) (w : World) : Calls Try.prog 110 #[.int .i64 (n : Int)] w fun e w' => e = .returned (.int .i64 ((n - 1 : Nat) : Int)) ∧ w = w' := by
  rcases n with _ | m
  · go_enter Try.func110, Try.ntmps110
    go_wp2_with fail
    go_ret
    exact ⟨rfl, rfl⟩
  · have h0 : ¬ ((m + 1 : Nat) : Int) ≤ 0 := by omega
    have hw : wrap64 (((m + 1 : Nat) : Int) - 1) = (m : Int) := by unfold wrap64; omega
    generalize hq : ((m + 1 : Nat) : Int) = q at *
    have HW := Lib.hid hw
    clear hw hq
    go_enter Try.func110, Try.ntmps110
    go_wp2_with fail
    go_ret
    exact ⟨by rw [HW.out]; rfl, rfl⟩

def fN (s : Nat) (l : List Int) : List Int := l.filter (fun k => !hasB (s : Int) k)
def fI (s d : Nat) (l : List Tree) : List Tree := (l.map (lessT s d)).filter (fun T => !deadT T)
theorem fN_len (s : Nat) (l : List Int) : (fN s l).length ≤ l.length := List.length_filter_le _ _
theorem fI_len (s d : Nat) (l : List Tree) : (fI s d l).length ≤ l.length := Nat.le_trans (List.length_filter_le _ _) (by simp)
theorem take_one {α : Type} {l : List α} {j : Nat} {x : α} (h : l[j]? = some x) : l.take (j + 1) = l.take j ++ [x] := by
  rw [List.take_add_one, h]; rfl
theorem fN_take {s : Nat} {l : List Int} {j : Nat} {x : Int} (h : l[j]? = some x) : fN s (l.take (j + 1)) = fN s (l.take j) ++ (if hasB (s : Int) x then [] else [x]) := by
  unfold fN
  rw [take_one h, List.filter_append]
  cases hb : hasB (s : Int) x <;> simp [List.filter_cons, hb]
theorem fI_take {s d : Nat} {l : List Tree} {j : Nat} {x : Tree} (h : l[j]? = some x) : fI s d (l.take (j + 1)) = fI s d (l.take j) ++ (if deadT (lessT s d x) then [] else [lessT s d x]) := by
  unfold fI
  rw [take_one h, List.map_append, List.filter_append]
  cases hb : deadT (lessT s d x) <;> simp [List.filter_cons, hb]
theorem cnt_take1 {α : Type} {p : α → Bool} {l : List α} {j : Nat} {x : α} (h : l[j]? = some x) : cnt p (l.take (j + 1)) = cnt p (l.take j) + (if p x then 1 else 0) := cnt_take_succ p l j x h
theorem TAt.thr {P : Nat → Prop} {d : Nat} {w : World} {t : Int} {v1 v2 : Value} {T : Tree} (h : TAt P d w (.int .i64 t) v1 v2 T) : thrOf T = t := by
  cases d with
  | zero => exact h.elim
  | succ d =>
    obtain ⟨thr, ns, is⟩ := T
    obtain ⟨h1, _⟩ := h.parts
    injection h1 with _ h2
    exact h2.symm

/-- The contract of less. -/
def LessC (s d : Nat) : Prop := ∀ (P : Nat → Prop) (n : Int) (T : Tree) (x0 x1 x2 : Value) (w : World), TAt P d w x0 x1 x2 T → WF n d T →
    Calls Try.prog 87 #[.agg #[x0, x1, x2], .int .i64 (s : Int)] w fun e w' => ∃ y0 y1 y2, e = .returned (.agg #[y0, y1, y2]) ∧ TAt (fun b => w.heap.size ≤ b) d w' y0 y1 y2 (lessT s d T) ∧ Below w.heap.size w w'

set_option maxRecDepth 100000 in
set_option maxHeartbeats 8000000 in
theorem less_step (s d : Nat) (hs : s < 1024) (ih : LessC s d) : LessC s (d + 1) := by
  intro P n T x0 x1 x2 w h hWF
  obtain ⟨thr, ns, is⟩ := T
  obtain ⟨i0, hin, hz0, hz1, hz2⟩ := info_parts infoInt
  obtain ⟨i3, hi3, hy0, hy1, hy2⟩ := info_parts infoTrust
  obtain ⟨rfl, hn, hi, hN, hL⟩ := h.parts
  obtain ⟨A, c, rfl⟩ := hN.slice
  obtain ⟨B, c', rfl⟩ := hL.slice
  obtain ⟨ht0, ht1, hl10, hl3, _, _, hWi⟩ := hWF
  obtain ⟨t0, rfl⟩ := Int.eq_ofNat_of_zero_le (show 0 ≤ thr by omega)
  have HWI := Lib.hid hWi
  have HT1 := Lib.hid (show t0 ≤ 13 by omega)
  clear ht1
  have HI := Lib.hid ih
  have hb3 : Below w.heap.size w (((w.alloc (.cells #[.int .i64 (t0 : Int), .slice A ns.length c, .slice B is.length c'] 59)).alloc (.cells #[.int .i64 0, .slice none 0 0, .slice none 0 0] 59)).alloc (.cells #[.int .i64 (t0 : Int), .slice none 0 0, .slice none 0 0] 59)) := balloc (balloc (balloc (bref w) _) _) _
  have k0 : (((w.alloc (.cells #[.int .i64 (t0 : Int), .slice A ns.length c, .slice B is.length c'] 59)).alloc (.cells #[.int .i64 0, .slice none 0 0, .slice none 0 0] 59)).alloc (.cells #[.int .i64 (t0 : Int), .slice none 0 0, .slice none 0 0] 59)).heap[w.heap.size]? = some (.cells #[.int .i64 (t0 : Int), .slice A ns.length c, .slice B is.length c'] 59 (0, 0)) := alloc_on (alloc_on (alloc_at rfl))
  have k1 : OutAt (((w.alloc (.cells #[.int .i64 (t0 : Int), .slice A ns.length c, .slice B is.length c'] 59)).alloc (.cells #[.int .i64 0, .slice none 0 0, .slice none 0 0] 59)).alloc (.cells #[.int .i64 (t0 : Int), .slice none 0 0, .slice none 0 0] 59)) (w.heap.size + 1) 0 (.slice none 0 0) (.slice none 0 0) := alloc_on (alloc_at (alloc_sz _ _))
  have k2 : OutAt (((w.alloc (.cells #[.int .i64 (t0 : Int), .slice A ns.length c, .slice B is.length c'] 59)).alloc (.cells #[.int .i64 0, .slice none 0 0, .slice none 0 0] 59)).alloc (.cells #[.int .i64 (t0 : Int), .slice none 0 0, .slice none 0 0] 59)) (w.heap.size + 2) (t0 : Int) (.slice none 0 0) (.slice none 0 0) := alloc_at (by rw [alloc_sz, alloc_sz])
  have hsz : (((w.alloc (.cells #[.int .i64 (t0 : Int), .slice A ns.length c, .slice B is.length c'] 59)).alloc (.cells #[.int .i64 0, .slice none 0 0, .slice none 0 0] 59)).alloc (.cells #[.int .i64 (t0 : Int), .slice none 0 0, .slice none 0 0] 59)).heap.size = w.heap.size + 3 := by rw [alloc_sz, alloc_sz, alloc_sz]
  have HN := Lib.hid ((hN.both (Q := fun b => b < w.heap.size) (fun _ _ _ => rfl) (fun k hk _ => hk)).below hb3)
  have HL := Lib.hid ((hL.both (Q := fun b => b < w.heap.size) (fun _ _ _ => rfl) (fun k hk _ => hk)).below hb3)
  have HB := Lib.hid hb3
  have K0 := Lib.hid k0
  have K1 := Lib.hid k1
  have K2 := Lib.hid k2
  clear h hb3 k0 k1 k2 hN hL hWi ih
  go_enter Try.func87, Try.ntmps87
  go_upto_region 2 with fail
  generalize (((w.alloc (.cells #[.int .i64 (t0 : Int), .slice A ns.length c, .slice B is.length c'] 59)).alloc (.cells #[.int .i64 0, .slice none 0 0, .slice none 0 0] 59)).alloc (.cells #[.int .i64 (t0 : Int), .slice none 0 0, .slice none 0 0] 59)) = W1 at *
  generalize hg : w.heap.size = g at *
  have HG := Lib.hid hg
  clear hg
  have b1 : W1.cell? ⟨g, 1, none⟩ = some (.slice A ns.length c) := cell_of_row _ _ 1 _ _ (0, 0) K0.out
  go_wp2_with fail
  clear b1
  go_loopw [17] (fun t W => ∃ (j : Nat) (v : Value), j ≤ ns.length ∧ t = .int .i64 j ∧ W.ownsRow (g + 3) 3 1 v (fN s (ns.take j)).length ((fN s (ns.take j)).map (Value.int .i64)) ∧ Hid (OutAt W (g + 2) ((t0 - cnt (hasB (s : Int)) (ns.take j) : Nat) : Int) v (.slice none 0 0)) ∧ Hid (W1.grownBy W (some (g + 2)))) (fun t _ => ns.length - (intOf t).toNat)
  case atStart => exact ⟨0, .slice none 0 0, by omega, rfl, World.ownsRow_nil _ _ _ _, K2, Lib.hid (World.grownBy.refl _ _)⟩
  case round =>
    obtain ⟨j, v, hj, rfl, hown, hO, hGr⟩ := hrel
    have hwr := hGr.out.size
    obtain ⟨o0, o1, o2⟩ := hO.out.cs
    have of0 := hO.out.fr 0
    have of1 := hO.out.fr 1
    have hol := hO.out.lt
    by_cases hlt : j < ns.length
    · obtain ⟨An, cn, hAn, hNc⟩ := HN.out
      injection hAn with hA1 hA2 hA3
      subst hA1
      subst hA3
      obtain ⟨b, off, rfl, hP, hc⟩ := hNc j hlt
      have hx0 : ns[j]? = some (ns.getD j 0) := by rw [List.getD_eq_getElem?_getD, List.getElem?_eq_getElem hlt]; rfl
      generalize ns.getD j 0 = x at *
      have d1 := (World.cell?_of_block (a := ⟨b, off + j, none⟩) (hGr.out.block b (by omega) (by simp; omega))).trans hc
      have HC := Lib.hid (cnt_take1 (p := hasB (s : Int)) hx0)
      have HF := Lib.hid (fN_take (s := s) hx0)
      have hfl := Nat.le_trans (fN_len s (ns.take j)) (by rw [List.length_take]; exact Nat.min_le_right _ _)
      clear hc hNc hx0
      cases hb : hasB (s : Int) x
      · rw [hb] at HC HF
        rw [if_neg (by simp)] at HC HF
        go_wp2_with fail
        refine (rhas_run _ _ _).mono ?_
        rintro e w2 ⟨rfl, rfl⟩
        rw [hb]
        have HOB := Lib.hid (fun (q : Nat) (hq : v.ownBlock = some q) => (hown.lt q hq).1)
        go_wp2_with (at_builtin; refine wpList_append_own _ rfl _ _ 22 rfl (g + 3) 3 i0 (.int .i64 0) 1 8 Try.underlying22 hin hz0 hz1 hz2 rfl (by decide) _ _ _ rfl (hown.alloc _) ⟨wr.heap.size, 0, none⟩ 1 1 [.int .i64 x] rfl rfl (cell_one_new _ _ _) (fun u hu => by simp at hu; subst hu; rfl) (by unfold maxLen; omega) (by omega) (by simp; omega) ?_; intro v' W2 hown' hgrow hnil; obtain ⟨gq, cq, rfl, hgq, hlq⟩ := hown'.form (by omega); have hO3 := hO.out.keep ((hgrow.block _ (by simp; omega) (fun e => by have := HOB.out _ e.symm; omega)).trans (Below.heap_alloc _ _ _ hol)); obtain ⟨p0, p1, p2⟩ := hO3.cs; have pf1 := hO3.fr 1)
        have hown4 := hown'.kept (gset1 W2 ⟨g + 2, 1, none⟩ (.slice (some ⟨gq, 0, none⟩) ((fN s (ns.take j)).length + 1) cq)) (.inr (by simp [Value.ownBlock]; omega))
        have HOW4 := Lib.hid (own_snoc hown4)
        have HG3 := Lib.hid (grown_at (gown (grown_trans hGr.out (grown_below (balloc (bref wr) (.cells #[.int .i64 x] 3)))) hgrow (fun q hq => by have := HOB.out q hq; omega)) 1 (.slice (some ⟨gq, 0, none⟩) ((fN s (ns.take j)).length + 1) cq))
        have HO4 := Lib.hid (hO3.set1 (.slice (some ⟨gq, 0, none⟩) ((fN s (ns.take j)).length + 1) cq))
        clear hown' hgrow hnil hown hown4
        go_roundw
        case rel => exact ⟨j + 1, _, by omega, by go_num, by rw [HF.out]; simpa using HOW4.out, by rw [HC.out]; exact HO4, HG3⟩
        case measure => simp [intOf]; omega
      · rw [hb] at HC HF
        rw [if_pos rfl] at HC HF
        have HOWN := Lib.hid hown
        have hlow : t0 - cnt (hasB (s : Int)) (ns.take j) ≤ 1000000 := by have := HT1.out; omega
        have HSUB := Lib.hid (show t0 - cnt (hasB (s : Int)) (ns.take (j + 1)) = t0 - cnt (hasB (s : Int)) (ns.take j) - 1 by have := HC.out; omega)
        generalize t0 - cnt (hasB (s : Int)) (ns.take j) = m0 at *
        go_wp2_with fail
        refine (rhas_run _ _ _).mono ?_
        rintro e w2 ⟨rfl, rfl⟩
        rw [hb]
        go_wp2_with fail
        refine (rlower_run m0 hlow _).mono ?_
        rintro e w2 ⟨rfl, rfl⟩
        have HO4 := Lib.hid (hO.out.set0 ((m0 - 1 : Nat) : Int))
        have HG3 := Lib.hid (grown_at hGr.out 0 (.int .i64 ((m0 - 1 : Nat) : Int)))
        have HOW4 := Lib.hid (HOWN.out.kept (gset1 wr ⟨g + 2, 0, none⟩ (.int .i64 ((m0 - 1 : Nat) : Int))) (own_below HOWN.out (by simp)))
        clear hown
        go_wp2_with fail
        go_roundw
        case rel => exact ⟨j + 1, v, by omega, by go_num, by rw [HF.out, List.append_nil]; exact HOW4.out, by rw [HSUB.out]; exact HO4, HG3⟩
        case measure => simp [intOf]; omega
    · obtain rfl : j = ns.length := by omega
      rw [List.take_length] at hown hO
      have HTK := Lib.hid (show cnt (hasB (s : Int)) (ns.take ns.length) = cnt (hasB (s : Int)) ns by rw [List.take_length])
      generalize hm0 : t0 - cnt (hasB (s : Int)) ns = m0 at *
      have hm13 : m0 ≤ 13 := by have := HT1.out; omega
      have HM0 := Lib.hid hm0
      clear hm0
      obtain ⟨A1, c1, rfl⟩ := own_slice hown
      have HOWN := Lib.hid hown
      have HO0 := hO
      have HG0 := hGr
      have b2 : wr.cell? ⟨g, 2, none⟩ = some (.slice B is.length c') := (World.cell?_of_block (a := ⟨g, 2, none⟩) (hGr.out.block g (by omega) (by simp))).trans (cell_of_row _ _ 2 _ _ (0, 0) K0.out)
      clear hown of0 of1 o0 o1 o2
      have hL1l := Nat.le_trans (fN_len s ns) hl10
      generalize hL1 : fN s ns = L1 at *
      have HL1 := Lib.hid hL1
      clear hL1
      go_wp2_with fail
      clear b2
      go_loopw [38] (fun t W => ∃ (j : Nat) (v2 : Value), j ≤ is.length ∧ t = .int .i64 j ∧ Hid (W.ownsRow (g + 3) 3 1 (.slice A1 L1.length c1) L1.length (L1.map (Value.int .i64))) ∧ Hid (Inner (g + 3) d W v2 (fI s d (is.take j))) ∧ Hid (OutAt W (g + 2) ((m0 - cnt (fun T => deadT (lessT s d T)) (is.take j) : Nat) : Int) (.slice A1 L1.length c1) v2) ∧ Hid (W1.grownBy W (some (g + 2)))) (fun t _ => is.length - (intOf t).toNat)
      case atStart => exact ⟨0, .slice none 0 0, by omega, rfl, HOWN, Lib.hid (Inner.nil _ _ _), HO0, HG0⟩
      case round =>
        clear HOWN HO0 HG0 hO hGr hwr hol
        obtain ⟨j, v2, hj, rfl, hOW, hInn, hO, hGr⟩ := hrel
        have hwr := hGr.out.size
        obtain ⟨o0, o1, o2⟩ := hO.out.cs
        have of0 := hO.out.fr 0
        have of2 := hO.out.fr 2
        have hol := hO.out.lt
        by_cases hlt : j < is.length
        · obtain ⟨Bn, cn, hBn, hLc⟩ := HL.out
          injection hBn with hA1 hA2 hA3
          subst hA1
          subst hA3
          obtain ⟨T, hT⟩ : ∃ T, is[j]? = some T := ⟨_, List.getElem?_eq_getElem hlt⟩
          obtain ⟨b, off, x0, x1, x2, rfl, hP, e0, e1, e2, hTk⟩ := hLc j T hT
          obtain ⟨t', A', n', ca, B', m', cb, rfl, rfl, rfl⟩ := hTk.form
          have lw := hGr.out.block b (by omega) (by simp; omega)
          have d0 := (World.cell?_of_block (a := ⟨b, off + j * 3, none⟩) lw).trans e0
          have d1 := (World.cell?_of_block (a := ⟨b, off + j * 3 + 1, none⟩) lw).trans e1
          have d2 := (World.cell?_of_block (a := ⟨b, off + j * 3 + 2, none⟩) lw).trans e2
          have hTr : TAt (fun b => b < g) d wr (.int .i64 t') (.slice A' n' ca) (.slice B' m' cb) T := hTk.keep (fun q hq hP => hGr.out.block q hq (by simp; omega))
          have HTb := Lib.hid (hTr.below (balloc (bref wr) (.cells #[.int .i64 t', .slice A' n' ca, .slice B' m' cb] 59)))
          have HWT := Lib.hid (HWI.out T (List.mem_of_getElem? hT))
          have HC := Lib.hid (cnt_take1 (p := fun T => deadT (lessT s d T)) hT)
          have HF := Lib.hid (fI_take (s := s) (d := d) hT)
          have hfl := Nat.le_trans (fI_len s d (is.take j)) (by rw [List.length_take]; exact Nat.min_le_right _ _)
          have HOWB := Lib.hid (fun q (hq : v2.ownBlock = some q) => (hInn.out.own q hq).2)
          have HGr := hGr
          have HO := hO
          clear lw e0 e1 e2 hTr hTk hLc hT hGr hO of0 of2 o0 o1 o2
          go_wp2_with fail
          refine (HI.out _ n T _ _ _ _ HTb.out HWT.out).mono ?_
          rintro e W2 ⟨y0, y1, y2, rfl, hT2, hb2⟩
          obtain ⟨t2, A2, n2, c2, B2, m2, c3, rfl, rfl, rfl⟩ := hT2.form
          have hthr := hT2.thr
          have hbA := balloc (bstep (balloc (bref wr) (.cells #[.int .i64 t', .slice A' n' ca, .slice B' m' cb] 59)) hb2) (.cells #[.int .i64 t2, .slice A2 n2 c2, .slice B2 m2 c3] 59)
          have k3 : (W2.alloc (.cells #[.int .i64 t2, .slice A2 n2 c2, .slice B2 m2 c3] 59)).heap[W2.heap.size]? = some (.cells #[.int .i64 t2, .slice A2 n2 c2, .slice B2 m2 c3] 59 (0, 0)) := alloc_at rfl
          have HT3 := Lib.hid (TAt.both (Q := fun b => wr.heap.size ≤ b) (fun _ _ _ => rfl) (fun q _ hq => by simp at hq; omega) _ _ _ _ _ (hT2.below (balloc (bref W2) (.cells #[.int .i64 t2, .slice A2 n2 c2, .slice B2 m2 c3] 59))))
          have HK3 := Lib.hid k3
          have HO3 := Lib.hid (HO.out.keep (hbA.block _ hol))
          have HOW3 := Lib.hid (own_bel hOW.out hbA)
          have HI3 := Lib.hid (hInn.out.below hbA)
          have HG3 := Lib.hid (grown_trans HGr.out (grown_below hbA))
          have HS3 := Lib.hid hbA.size
          clear hT2 hb2 hbA k3 d0 d1 d2
          go_upto_region 13 with fail
          generalize W2.alloc (.cells #[.int .i64 t2, .slice A2 n2 c2, .slice B2 m2 c3] 59) = W3 at *
          generalize W2.heap.size = r3 at *
          have r0 : W3.cell? ⟨r3, 0, none⟩ = some (.int .i64 t2) := cell_of_row _ _ 0 _ _ (0, 0) HK3.out
          have r1 : W3.cell? ⟨r3, 1, none⟩ = some (.slice A2 n2 c2) := cell_of_row _ _ 1 _ _ (0, 0) HK3.out
          have r2 : W3.cell? ⟨r3, 2, none⟩ = some (.slice B2 m2 c3) := cell_of_row _ _ 2 _ _ (0, 0) HK3.out
          obtain ⟨o0, o1, o2⟩ := HO3.out.cs
          have of0 := HO3.out.fr 0
          have of2 := HO3.out.fr 2
          have hol3 := HO3.out.lt
          cases hdd : deadT (lessT s d T)
          · rw [hdd] at HC HF
            rw [if_neg (by simp)] at HC HF
            have hpos : ¬ t2 ≤ 0 := by unfold deadT at hdd; rw [hthr] at hdd; exact of_decide_eq_false hdd
            obtain ⟨cs, hcs, hcl⟩ := HI3.out
            have hcn := hcs.1
            have HOWI := Lib.hid (fun q (hq : v2.ownBlock = some q) => (hcs.lt q hq).1)
            have HCS3 := Lib.hid hcs
            have HCSA := Lib.hid (hcs.alloc (.cells #[.int .i64 t2, .slice A2 n2 c2, .slice B2 m2 c3] 59))
            have HNEW := Lib.hid (cell_three_new W3 (.int .i64 t2) (.slice A2 n2 c2) (.slice B2 m2 c3) 59)
            have HBA4 := Lib.hid (balloc (bref W3) (.cells #[.int .i64 t2, .slice A2 n2 c2, .slice B2 m2 c3] 59))
            have HSZ4 := Lib.hid (alloc_sz W3 (.cells #[.int .i64 t2, .slice A2 n2 c2, .slice B2 m2 c3] 59))
            have HCL := Lib.hid hcl
            clear hcs hcl hthr hdd
            go_wp2_with (at_builtin; refine wpList_append_lies _ rfl _ _ 57 rfl (g + 3) 59 i3 (.agg #[.int .i64 0, .slice none 0 0, .slice none 0 0]) 3 56 Try.underlying57 hi3 hy0 hy1 hy2 rfl (by decide) _ (fI s d (is.take j)).length cs rfl (by exact HCSA.out) ⟨_, 0, none⟩ 1 1 [.int .i64 t2, .slice A2 n2 c2, .slice B2 m2 c3] rfl rfl (by exact HNEW.out) (by intro u hu; simp at hu; rcases hu with rfl | rfl | rfl <;> rfl) (by omega) (by unfold maxLen; omega) (by omega) (by have := HSZ4.out; omega) _ rfl ?_; intro g4 cap4 W5 hown4 hgrow4 hat4 hlt4; have hO5 := HO3.out.keep ((hgrow4.block (g + 2) (by have := HSZ4.out; omega) (fun e => by have := HOWI.out _ e.symm; omega)).trans (HBA4.out.block (g + 2) hol3)); obtain ⟨s0, s1, s2⟩ := hO5.cs; have sf2 := hO5.fr 2)
            have hgB : (W3.alloc (.cells #[.int .i64 t2, .slice A2 n2 c2, .slice B2 m2 c3] 59)).grownBy W5 v2.ownBlock := ⟨hgrow4.os, hgrow4.tape, hgrow4.output, hgrow4.size, hgrow4.block⟩
            have hI5 := Inner.append (W := W3.alloc (.cells #[.int .i64 t2, .slice A2 n2 c2, .slice B2 m2 c3] 59)) (fun k T hT => by
                obtain ⟨z0, z1, z2, e0, e1, e2, e3⟩ := HCL.out k T hT
                exact ⟨z0, z1, z2, e0, e1, e2, e3.below HBA4.out⟩) hcn
              ((HT3.out.below HBA4.out).imp (fun q _ hq => ⟨by omega, fun e => by have := (HCS3.out.lt q e).2; have := HOWB.out q e; omega⟩)) hown4 hgB hat4
            have HI5 := Lib.hid (hI5.setLow (p := ⟨g + 2, 2, none⟩) (by simp) (.slice (some ⟨g4, 0, none⟩) ((fI s d (is.take j)).length + 1) cap4))
            have HO5 := Lib.hid (hO5.set2 (.slice (some ⟨g4, 0, none⟩) ((fI s d (is.take j)).length + 1) cap4))
            have HG5 := Lib.hid (grown_at (gown (grown_trans HG3.out (grown_below HBA4.out)) hgB (fun q hq => by have := HOWI.out q hq; omega)) 2 (.slice (some ⟨g4, 0, none⟩) ((fI s d (is.take j)).length + 1) cap4))
            have hOWA := own_bel HOW3.out HBA4.out
            have HOW5 := Lib.hid ((hOWA.kept hgB (own_apart hOWA HCSA.out)).kept (gset1 W5 ⟨g + 2, 2, none⟩ (.slice (some ⟨g4, 0, none⟩) ((fI s d (is.take j)).length + 1) cap4)) (own_below (hOWA.kept hgB (own_apart hOWA HCSA.out)) (by simp)))
            clear hown4 hgrow4 hat4 hlt4 hgB hI5 hO5 hOWA s0 s1 s2 sf2
            have HCE := Lib.hid (show cnt (fun T => deadT (lessT s d T)) (is.take (j + 1)) = cnt (fun T => deadT (lessT s d T)) (is.take j) by have := HC.out; omega)
            go_roundw
            case rel => exact ⟨j + 1, _, by omega, by go_num, HOW5, by rw [HF.out]; exact HI5, by rw [HCE.out]; exact HO5, HG5⟩
            case measure => simp [intOf]; omega
          · rw [hdd] at HC HF
            rw [if_pos rfl] at HC HF
            have hpos : t2 ≤ 0 := by unfold deadT at hdd; rw [hthr] at hdd; exact of_decide_eq_true hdd
            have HSUB := Lib.hid (show m0 - cnt (fun T => deadT (lessT s d T)) (is.take (j + 1)) = m0 - cnt (fun T => deadT (lessT s d T)) (is.take j) - 1 by have := HC.out; omega)
            have hlow : m0 - cnt (fun T => deadT (lessT s d T)) (is.take j) ≤ 1000000 := by omega
            generalize m0 - cnt (fun T => deadT (lessT s d T)) (is.take j) = q0 at *
            clear hthr hdd
            go_wp2_with fail
            refine (rlower_run q0 hlow _).mono ?_
            rintro e w2 ⟨rfl, rfl⟩
            have HO4 := Lib.hid (HO3.out.set0 ((q0 - 1 : Nat) : Int))
            have HG4 := Lib.hid (grown_at HG3.out 0 (.int .i64 ((q0 - 1 : Nat) : Int)))
            have HOW4 := Lib.hid (HOW3.out.kept (gset1 W3 ⟨g + 2, 0, none⟩ (.int .i64 ((q0 - 1 : Nat) : Int))) (own_below HOW3.out (by simp)))
            have HI4 := Lib.hid (HI3.out.setLow (p := ⟨g + 2, 0, none⟩) (by simp) (.int .i64 ((q0 - 1 : Nat) : Int)))
            go_wp2_with fail
            go_roundw
            case rel => exact ⟨j + 1, v2, by omega, by go_num, HOW4, by rw [HF.out, List.append_nil]; exact HI4, by rw [HSUB.out]; exact HO4, HG4⟩
            case measure => simp [intOf]; omega
        · obtain rfl : j = is.length := by omega
          obtain ⟨A2, c2, rfl⟩ := hInn.out.slice
          have HTI := Lib.hid (show fI s d (is.take is.length) = fI s d is by rw [List.take_length])
          have hR : OutAt wr (g + 1) 0 (.slice none 0 0) (.slice none 0 0) := K1.out.keep (hGr.out.block (g + 1) (by omega) (by simp))
          obtain ⟨r0, r1, r2⟩ := hR.cs
          have rf0 := hR.fr 0
          have rf1 := hR.fr 1
          have rf2 := hR.fr 2
          have HZB := Lib.hid (show Below w.heap.size w wr by
            have h1 := HB.out
            rw [← HG.out] at h1
            exact h1.grown hGr.out h1.size (fun q hq => by obtain rfl := Option.some.inj hq; have := HG.out; omega))
          have hfl := Nat.le_trans (fI_len s d (is.take is.length)) (by rw [List.length_take]; exact Nat.min_le_right _ _)
          have HLE := Lib.hid (show lessT s (d + 1) (.mk (t0 : Int) ns is) = .mk ((m0 - cnt (fun T => deadT (lessT s d T)) (is.take is.length) : Nat) : Int) L1 (fI s d (is.take is.length)) by
            rw [← HM0.out, ← HL1.out, List.take_length]
            show Tree.mk _ _ _ = _
            have e1 : cnt deadT (is.map (lessT s d)) = cnt (fun T => deadT (lessT s d T)) is := by
              unfold cnt; rw [List.filter_map, List.length_map]; rfl
            rw [e1]
            rfl)
          generalize m0 - cnt (fun T => deadT (lessT s d T)) (is.take is.length) = tz at *
          clear HTI
          generalize fI s d (is.take is.length) = L2 at *
          have HOW := hOW
          have HInn := hInn
          clear hOW hInn hR
          go_wp2_with fail
          have K1' := ((HOW.out.kept (gset1 wr ⟨g + 1, 0, none⟩ (.int .i64 (tz : Int))) (own_below HOW.out (by simp))).kept (gset1 _ ⟨g + 1, 1, none⟩ (.slice A1 L1.length c1)) (own_below HOW.out (by simp))).kept (gset1 _ ⟨g + 1, 2, none⟩ (.slice A2 L2.length c2)) (own_below HOW.out (by simp))
          have K2' := ((HInn.out.setLow (p := ⟨g + 1, 0, none⟩) (by simp) (.int .i64 (tz : Int))).setLow (p := ⟨g + 1, 1, none⟩) (by simp) (.slice A1 L1.length c1)).setLow (p := ⟨g + 1, 2, none⟩) (by simp) (.slice A2 L2.length c2)
          have hgl := HG.out
          refine bodyPost_ret (v := .agg #[.int .i64 (tz : Int), .slice A1 L1.length c1, .slice A2 L2.length c2]) ?_ rfl ⟨_, _, _, rfl, ?_, ?_⟩
          · simp [results, Try.results87, go_sem, r0, r1, r2]
          · rw [HLE.out]
            exact made (fun b hb => by omega) (by omega) (by omega) K1' K2'
          · exact bset (bset (bset HZB.out (p := ⟨g + 1, 0, none⟩) (by show w.heap.size ≤ g + 1; omega) _) (p := ⟨g + 1, 1, none⟩) (by show w.heap.size ≤ g + 1; omega) _) (p := ⟨g + 1, 2, none⟩) (by show w.heap.size ≤ g + 1; omega) _

theorem less_run (s : Nat) (hs : s < 1024) : ∀ d, LessC s d
  | 0 => fun P n T x0 x1 x2 w h _ => h.elim
  | d + 1 => less_step s d hs (less_run s hs d)
end Go.Proofs.Ytbbdmaakphoofaa
