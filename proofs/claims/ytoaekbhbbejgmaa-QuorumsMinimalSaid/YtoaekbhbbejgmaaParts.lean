/- The contract of quorums.Parts. -/
import Derived.Test.YtoaekbhbbejgmaaReach
import Derived.Test.YtoaekbhbbejgmaaNod
import Derived.Test.YtoaekbhbbejgmaaOrdersMath
namespace Go.Proofs.Ytoaekbhbbejgmaa
set_option linter.unusedVariables false
set_option linter.unusedSimpArgs false
open Go.RowKit

def BitsLt (m x : Nat) : Prop := ∀ i, x.testBit i = true → i < m
theorem getD_p {p : Nat → Prop} {R : List Nat} (h0 : p 0) (h : ∀ x ∈ R, p x) (k : Nat) : p (R.getD k 0) := by
  rw [List.getD_eq_getElem?_getD]
  cases hk : R[k]? with
  | none => exact h0
  | some x => exact h x (List.mem_of_getElem? hk)
theorem set_p {p : Nat → Prop} {R : List Nat} {k x : Nat} (h : ∀ x ∈ R, p x) (hx : p x) : ∀ y ∈ R.set k x, p y := fun y hy => by
  rcases List.mem_or_eq_of_mem_set hy with h1 | h1
  · exact h y h1
  · subst h1; exact hx
theorem wkS_p {p : Nat → Prop} (h0 : p 0) (hor : ∀ a b, p a → p b → p (a ||| b)) {b : Nat} {R : List Nat} (h : ∀ x ∈ R, p x) : ∀ k, ∀ x ∈ wkS b R k, p x
  | 0 => h
  | k + 1 => by
    unfold wkS
    have ih := wkS_p h0 hor (b := b) h k
    split
    · exact set_p ih (hor _ _ (getD_p h0 ih _) (getD_p h0 ih _))
    · exact ih
theorem wbS_p {p : Nat → Prop} (h0 : p 0) (hor : ∀ a b, p a → p b → p (a ||| b)) {n : Nat} {R : List Nat} (h : ∀ x ∈ R, p x) : ∀ b, ∀ x ∈ wbS n R b, p x
  | 0 => h
  | b + 1 => by unfold wbS; exact wkS_p h0 hor (wbS_p h0 hor h b) n
theorem bitsLt_or {m a b : Nat} (ha : BitsLt m a) (hb : BitsLt m b) : BitsLt m (a ||| b) := fun i hi => by
  rw [Nat.testBit_or, Bool.or_eq_true] at hi
  rcases hi with hi | hi
  · exact ha i hi
  · exact hb i hi
theorem reachS_ok (ms : List Mem) (hl : ms.length ≤ 10) : RowOk ms.length (reachS ms) := wbS_ok (rows1_ok ms hl _) _
theorem reachS_lt (ms : List Mem) (k : Nat) : BitsLt ms.length ((reachS ms).getD k 0) := by
  refine getD_p (p := BitsLt ms.length) (fun i hi => by simp at hi) ?_ k
  refine wbS_p (fun i hi => by simp at hi) (fun a b => bitsLt_or) (fun x hx => ?_) _
  obtain ⟨j, _, rfl⟩ := List.mem_map.1 hx
  split
  · intro i hi
    unfold r0S at hi
    rw [Nat.testBit_and, Bool.and_eq_true] at hi
    exact declS_bit hi.2
  · intro i hi; simp at hi
/-- The part of a member: who is reached and reaches back. -/
def partS (R : List Nat) (k : Nat) (l : List Int) : Nat := l.foldl (fun p x => if (R.getD x.toNat 0).testBit k then p ||| 2 ^ x.toNat else p) (2 ^ k)
theorem partS_snoc (R : List Nat) (k : Nat) (l : List Int) (x : Int) : partS R k (l ++ [x]) = if (R.getD x.toNat 0).testBit k then partS R k l ||| 2 ^ x.toNat else partS R k l := by
  unfold partS; rw [List.foldl_append]; rfl
def stepP (R : List Nat) (st : List Nat × Nat) (x : Int) : List Nat × Nat :=
  if st.2.testBit x.toNat then st else (st.1 ++ [partS R x.toNat (nodL (R.getD x.toNat 0) 10)], st.2 ||| partS R x.toNat (nodL (R.getD x.toNat 0) 10))
def partsS (R : List Nat) (l : List Int) : List Nat × Nat := l.foldl (stepP R) ([], 0)
theorem partsS_snoc (R : List Nat) (l : List Int) (x : Int) : partsS R (l ++ [x]) = stepP R (partsS R l) x := by
  unfold partsS; rw [List.foldl_append]; rfl

def Nod (l : List Int) : Prop := ∀ x ∈ l, ∃ k : Nat, x = (k : Int) ∧ k < 10
theorem nodL_nod (s : Nat) : Nod (nodL s 10) := fun x hx => by
  obtain ⟨k, h1, h2, _⟩ := (nodL_mem s 10 x).1 hx
  exact ⟨k, h1, h2⟩
theorem pow10_lt {k : Nat} (hk : k < 10) : 2 ^ k < 1024 := by
  have := Nat.pow_lt_pow_right (a := 2) (by omega) hk
  omega
theorem partS_lt (R : List Nat) (k : Nat) (hk : k < 10) (l : List Int) (h : Nod l) : partS R k l < 1024 := by
  unfold partS
  have key : ∀ (l : List Int) (a : Nat), Nod l → a < 1024 → l.foldl (fun p x => if (R.getD x.toNat 0).testBit k then p ||| 2 ^ x.toNat else p) a < 1024 := by
    intro l
    induction l with
    | nil => intro a _ ha; exact ha
    | cons x l ih =>
      intro a hn ha
      refine ih _ (fun y hy => hn y (List.mem_cons_of_mem _ hy)) ?_
      obtain ⟨j, rfl, hj⟩ := hn x (by simp)
      have := pow10_lt hj
      show (if (R.getD (j : Int).toNat 0).testBit k = true then a ||| 2 ^ (j : Int).toNat else a) < 1024
      simp only [Int.toNat_natCast]
      split
      · exact Nat.or_lt_two_pow (n := 10) (by omega) (by simpa using this)
      · exact ha
  exact key l _ h (pow10_lt hk)
theorem partsS_ok (R : List Nat) (l : List Int) (h : Nod l) : (partsS R l).2 < 1024 ∧ (partsS R l).1.length ≤ l.length ∧ ∀ x ∈ (partsS R l).1, x < 1024 := by
  unfold partsS
  have key : ∀ (l : List Int) (a : List Nat × Nat), Nod l → a.2 < 1024 → (∀ x ∈ a.1, x < 1024) → (l.foldl (stepP R) a).2 < 1024 ∧ (l.foldl (stepP R) a).1.length ≤ a.1.length + l.length ∧ ∀ x ∈ (l.foldl (stepP R) a).1, x < 1024 := by
    intro l
    induction l with
    | nil => intro a _ h1 h2; exact ⟨h1, by simp, h2⟩
    | cons x l ih =>
      intro a hn h1 h2
      have hl : Nod l := fun y hy => hn y (List.mem_cons_of_mem _ hy)
      obtain ⟨j, rfl, hj⟩ := hn x (by simp)
      have hp := partS_lt R j hj (nodL (R.getD j 0) 10) (nodL_nod _)
      have h3 : (stepP R a (j : Int)).2 < 1024 ∧ (stepP R a (j : Int)).1.length ≤ a.1.length + 1 ∧ ∀ x ∈ (stepP R a (j : Int)).1, x < 1024 := by
        unfold stepP
        simp only [Int.toNat_natCast]
        split
        · exact ⟨h1, by omega, h2⟩
        · refine ⟨Nat.or_lt_two_pow (n := 10) h1 hp, by simp, fun x hx => ?_⟩
          rcases List.mem_append.1 hx with hx | hx
          · exact h2 x hx
          · rw [List.mem_singleton] at hx; subst hx; exact hp
      have h4 := ih (stepP R a (j : Int)) hl h3.1 h3.2.2
      exact ⟨h4.1, by simp only [List.foldl_cons, List.length_cons]; omega, h4.2.2⟩
  have := key l ([], 0) h (by simp) (by simp)
  exact ⟨this.1, by simpa using this.2.1, this.2.2⟩

set_option maxRecDepth 100000 in
set_option maxHeartbeats 4000000 in
theorem parts_run (P : Nat → Prop) (ms : List Mem) (v : Value) (w : World) (hl : ms.length ≤ 10) (h : MemsAt P 2 w v ms) (hok : MemsOk ms.length ms) :
    Calls Try.prog 16 #[.agg #[v]] w fun e w' => ∃ v', e = .returned (.tuple #[v', .int .i64 0]) ∧ w'.ownsRow w.heap.size 3 1 v' (partsS (reachS ms) (nodL (declS ms ms.length) 10)).1.length ((zs (partsS (reachS ms) (nodL (declS ms ms.length) 10)).1).map (Value.int .i64)) ∧ Below w.heap.size w w' := by
  obtain ⟨i0, hin, hz0, hz1, hz2⟩ := info_parts infoInt
  obtain ⟨A, c, rfl⟩ := h.slice
  have hb1 : Below w.heap.size w (w.alloc (.cells #[.slice A ms.length c] 27)) := balloc (bref w) _
  have k0 : (w.alloc (.cells #[.slice A ms.length c] 27)).heap[w.heap.size]? = some (.cells #[.slice A ms.length c] 27 (0, 0)) := alloc_at rfl
  have H := Lib.hid (h.below hb1)
  have HB := Lib.hid hb1
  have K0 := Lib.hid k0
  have HOK := Lib.hid hok
  have hdl := declS_lt ms ms.length hl
  have HRR := Lib.hid (fun W (hm : MemsAt P 2 W (.slice A ms.length c) ms) => reach_run P ms _ W hl hm)
  have HRO := Lib.hid (reachS_ok ms hl)
  have HRB := Lib.hid (reachS_lt ms)
  have HDB := Lib.hid (fun k (hk : (declS ms ms.length).testBit k = true) => declS_bit hk)
  clear h hb1 k0 hok
  go_enter Try.func16, Try.ntmps16
  go_upto_region 1 with fail
  generalize w.alloc (.cells #[.slice A ms.length c] 27) = W1 at *
  generalize hg : w.heap.size = g at *
  have HG := Lib.hid hg
  clear hg
  have c0 : W1.cell? ⟨g, 0, none⟩ = some (.slice A ms.length c) := cell_of_row _ _ 0 _ _ (0, 0) K0.out
  have hgl := cell_lt c0
  go_wp2_with fail
  refine (cvalid_run P ms _ _ hl H.out HOK.out).mono ?_
  rintro e W2 ⟨rfl, hb2⟩
  have HB2 := Lib.hid hb2
  have d0 := (hb2.cell hgl).trans c0
  have HM2 := Lib.hid (H.out.below hb2)
  have hgl2 := cell_lt d0
  clear hb2 c0
  go_wp2_with fail
  refine (HRR.out _ HM2.out).mono ?_
  rintro e W3 ⟨vr, rfl, hr3, hb3⟩
  have d1 := (hb3.cell hgl2).trans d0
  have hgl3 := cell_lt d1
  have HM3 := Lib.hid (HM2.out.below hb3)
  have HB3 := Lib.hid (bstep HB2.out hb3)
  obtain ⟨R, hR⟩ : ∃ R, reachS ms = R := ⟨_, rfl⟩
  rw [hR] at hr3 HRO HRB
  have HRQ := Lib.hid hR
  have hr3' := NodesAt.of_own (ns := zs R) (by rw [zs_len, HRO.out.1]; exact hr3)
  obtain ⟨Ar, cr, hvr⟩ := own_slice hr3
  subst hvr
  have HR3 := Lib.hid hr3'
  clear hr3 hr3' hb3 d0 hR HRR
  go_wp2_with fail
  refine (declared_run P 2 ms _ _ hl HM3.out).mono ?_
  rintro e W4 ⟨rfl, hb4⟩
  have HB4 := Lib.hid (bstep HB3.out hb4)
  have HR4 := Lib.hid (HR3.out.below hb4)
  obtain ⟨D, hD⟩ : ∃ D, declS ms ms.length = D := ⟨_, rfl⟩
  have HDQ := Lib.hid hD
  rw [hD] at hdl HDB ⊢
  clear hb4 d1 hD HM3 HB3 HR3
  go_wp2_with fail
  refine (pnodes_run D _ hdl).mono ?_
  rintro e W5 ⟨vd, rfl, hd5, hb5⟩
  have HB5 := Lib.hid (bstep HB4.out hb5)
  have HR5 := Lib.hid (HR4.out.below hb5)
  have hLl := nodL_len D 10
  have HND := Lib.hid (nodL_nod D)
  have HLM := Lib.hid (fun x (hx : x ∈ nodL D 10) => (nodL_mem D 10 x).1 hx)
  obtain ⟨LD, hLD⟩ : ∃ LD, nodL D 10 = LD := ⟨_, rfl⟩
  have HLQ := Lib.hid hLD
  rw [hLD] at hd5 hLl HND HLM
  obtain ⟨Ad, cd, hvd⟩ := hd5.slice
  subst hvd
  have HD5 := Lib.hid hd5
  clear hd5 hb5 hLD HB4 HR4
  go_wp2_with fail
  go_loopw [6, 7, 24] (fun v6 v7 t W => ∃ (k : Nat) (ps : List Nat) (pl : Nat) (vv : Value), k ≤ LD.length ∧ v6 = vv ∧ v7 = .int .i64 (pl : Int) ∧ t = .int .i64 k ∧ W.ownsRow W5.heap.size 3 1 vv ps.length ((zs ps).map (Value.int .i64)) ∧ Hid (partsS R (LD.take k) = (ps, pl)) ∧ Hid (Below W5.heap.size W5 W)) (fun _ _ t _ => LD.length - (intOf t).toNat)
  case atStart => exact ⟨0, [], 0, .slice none 0 0, by omega, rfl, rfl, rfl, World.ownsRow_nil _ _ _ _, Lib.hid rfl, Lib.hid (bref _)⟩
  case round =>
    obtain ⟨k, ps, pl, v, hk, hv, rfl, rfl, hown, hP, hB⟩ := hrel
    replace hv := hv.symm
    subst hv
    have hpo := partsS_ok R (LD.take k) (fun x hx => HND.out x (List.mem_of_mem_take hx))
    rw [hP.out] at hpo
    obtain ⟨hpl, hpn, _⟩ := hpo
    have hpn10 : ps.length ≤ 10 := by simp at hpn; omega
    clear hpn
    have HOWN := Lib.hid hown
    have hbs := hB.out.size
    by_cases hlt : k < LD.length
    · obtain ⟨Ad', cd', e1, e2⟩ := HD5.out
      cases e1
      obtain ⟨b, off, rfl, hPb, hcc⟩ := e2 k hlt
      have hx0 : LD[k]? = some (LD.getD k 0) := by rw [List.getD_eq_getElem?_getD, List.getElem?_eq_getElem hlt]; rfl
      have HTK := Lib.hid (show LD.take (k + 1) = LD.take k ++ [LD.getD k 0] by rw [List.take_add_one, hx0]; rfl)
      obtain ⟨j, hj, hj10, hjb⟩ := HLM.out _ (List.mem_of_getElem? hx0)
      have hjm := HDB.out j hjb
      rw [hj] at hcc HTK
      have hc2 := (World.cell?_of_block (a := ⟨b, off + k, none⟩) (hB.out.block b (cell_lt hcc))).trans hcc
      have HHB := Lib.hid (hasB_bit hpl hj10)
      have HST := Lib.hid (partsS_snoc R (LD.take k) (j : Int))
      rw [← HTK.out, hP.out] at HST
      clear hcc hPb hx0 hj hjb e2 HTK hP
      rcases (show pl.testBit j = false ∨ pl.testBit j = true by cases pl.testBit j <;> simp) with hq | hq
      · rw [hq] at HHB
        have HSQ := Lib.hid hq
        obtain ⟨Ar', cr', f1, f2⟩ := HR5.out.below hB.out
        have hrl : (zs R).length = ms.length := by rw [zs_len]; exact HRO.out.1
        rw [hrl] at f1 f2
        cases f1
        have HRC := Lib.hid f2
        obtain ⟨br, offr, rfl, hPr, hcr⟩ := f2 j hjm
        rw [zs_get] at hcr
        have hxl := HRO.out.get j
        have HXB := Lib.hid (HRB.out j)
        have hpj := pow11 j (by omega)
        have hp10 := pow10_lt hj10
        obtain ⟨x, hx⟩ : ∃ x, R.getD j 0 = x := ⟨_, rfl⟩
        have HX := Lib.hid hx
        rw [hx] at hcr hxl HXB
        clear hq hx hPr f2 hown
        have hj0 : (0 : Int) ≤ (j : Int) := by omega
        have hj64 : ¬ (64 : Int) ≤ (j : Int) := by omega
        go_wp2_with fail
        refine (has_run _ _ _).mono ?_
        rintro e w2 ⟨rfl, rfl⟩
        rw [HHB.out]
        go_wp2_with fail
        refine (pnodes_run x _ hxl).mono ?_
        rintro e W6 ⟨vn, rfl, hn6, hb6⟩
        have HB6 := Lib.hid (bstep hB.out hb6)
        have HO6 := Lib.hid (own_keepG HOWN.out (fun j _ _ hl => hb6.block j hl))
        have HRC6 := Lib.hid (show ∀ k, k < ms.length → ∃ b off, some (⟨br, offr, none⟩ : Addr) = some ⟨b, off, none⟩ ∧ W6.cell? ⟨b, off + k, none⟩ = some (.int .i64 (R.getD k 0 : Nat)) from fun k hk => by
          obtain ⟨b, off, e1, _, e3⟩ := HRC.out k hk
          rw [zs_get] at e3
          exact ⟨b, off, e1, (World.cell?_of_block (a := ⟨b, off + k, none⟩) (hb6.block b (cell_lt e3))).trans e3⟩)
        have hL2l := nodL_len x 10
        have HLM2 := Lib.hid (fun y (hy : y ∈ nodL x 10) => (nodL_mem x 10 y).1 hy)
        have HND2 := Lib.hid (nodL_nod x)
        have HST2 := Lib.hid (show stepP R (ps, pl) (j : Int) = (ps ++ [partS R j (nodL x 10)], pl ||| partS R j (nodL x 10)) by
          unfold stepP
          simp only [Int.toNat_natCast]
          rw [if_neg (by rw [HSQ.out]; simp), HX.out])
        obtain ⟨L2, hL2⟩ : ∃ L2, nodL x 10 = L2 := ⟨_, rfl⟩
        rw [hL2] at hn6 hL2l HLM2 HND2 HST2
        obtain ⟨An, cn, hvn⟩ := hn6.slice
        subst hvn
        have HN6 := Lib.hid hn6
        have hs6 := hb6.size
        clear hn6 hb6 hL2 hcr hc2 HRC HHB HSQ
        go_wp2_with fail
        go_loop [10, 39] (fun p t => ∃ (i q : Nat), i ≤ L2.length ∧ p = .int .i64 (q : Int) ∧ t = .int .i64 i ∧ Hid (partS R j (L2.take i) = q)) (fun _ t => L2.length - (intOf t).toNat)
        case atStart => exact ⟨0, 2 ^ j, by omega, by rw [Int.natCast_pow]; rfl, rfl, Lib.hid rfl⟩
        case round =>
          obtain ⟨i, q, hi, rfl, rfl, hQ⟩ := hrel
          have hq10 := partS_lt R j hj10 (L2.take i) (fun x hx => HND2.out x (List.mem_of_mem_take hx))
          rw [hQ.out] at hq10
          by_cases hlt2 : i < L2.length
          · obtain ⟨An', cn', e1, e2⟩ := HN6.out
            cases e1
            obtain ⟨b2, off2, rfl, _, hcc2⟩ := e2 i hlt2
            have hx0 : L2[i]? = some (L2.getD i 0) := by rw [List.getD_eq_getElem?_getD, List.getElem?_eq_getElem hlt2]; rfl
            have HTK := Lib.hid (show L2.take (i + 1) = L2.take i ++ [L2.getD i 0] by rw [List.take_add_one, hx0]; rfl)
            obtain ⟨o, ho, ho10, hob⟩ := HLM2.out _ (List.mem_of_getElem? hx0)
            have hom := HXB.out o hob
            rw [ho] at hcc2 HTK
            obtain ⟨b3, off3, e3, hcc3⟩ := HRC6.out o hom
            cases e3
            have hyl := HRO.out.get o
            have HQS := Lib.hid (partS_snoc R j (L2.take i) (o : Int))
            rw [← HTK.out, hQ.out, Int.toNat_natCast] at HQS
            have HHB := Lib.hid (hasB_bit hyl hj10)
            have HOR := Lib.hid (shl_or q o hq10 ho10)
            generalize R.getD o 0 = y at *
            have ho0 : (0 : Int) ≤ (o : Int) := by omega
            have ho64 : ¬ (64 : Int) ≤ (o : Int) := by omega
            clear hx0 ho hob e2 HTK
            rcases (show y.testBit j = false ∨ y.testBit j = true by cases y.testBit j <;> simp) with hq | hq
            · rw [hq] at HHB
              have HS2 := Lib.hid (show partS R j (L2.take (i + 1)) = q by rw [HQS.out, if_neg (by rw [hq]; simp)])
              clear hq
              go_wp2_with fail
              refine (has_run _ _ _).mono ?_
              rintro e w2 ⟨rfl, rfl⟩
              rw [HHB.out]
              go_wp2_with fail
              go_round
              case rel => exact ⟨i + 1, q, by omega, rfl, by go_num, HS2⟩
              case measure => simp [intOf]; omega
            · rw [hq] at HHB
              have HS2 := Lib.hid (show partS R j (L2.take (i + 1)) = q ||| 2 ^ o by rw [HQS.out, if_pos hq])
              clear hq
              go_wp2_with fail
              refine (has_run _ _ _).mono ?_
              rintro e w2 ⟨rfl, rfl⟩
              rw [HHB.out]
              go_wp2_with fail
              rw [HOR.out]
              go_round
              case rel => exact ⟨i + 1, q ||| 2 ^ o, by omega, rfl, by go_num, HS2⟩
              case measure => simp [intOf]; omega
          · obtain rfl : i = L2.length := by omega
            rw [List.take_length] at hQ
            have HS2 := Lib.hid (show partsS R (LD.take (k + 1)) = (ps ++ [q], pl ||| q) by rw [HST.out, HST2.out, hQ.out])
            have HOR := Lib.hid (i64_or10 pl q hpl hq10)
            have hown := HO6.out
            have hzl := zs_len ps
            go_wp2_with (at_builtin; refine wpList_append_own _ rfl _ _ 22 rfl W5.heap.size 3 i0 (.int .i64 0) 1 8 Try.underlying22 hin hz0 hz1 hz2 rfl (by decide) _ _ _ rfl (hown.alloc _) ⟨W6.heap.size, 0, none⟩ 1 1 [.int .i64 (q : Int)] rfl rfl (cell_one_new _ _ _) (fun u hu => by simp at hu; subst hu; rfl) (by unfold maxLen; omega) (by omega) (by simp; omega) ?_; intro v' w1 hown' hgrow hnil)
            have HO := Lib.hid (own_snocZ hown')
            have HB7 := Lib.hid (Below.grown (balloc HB6.out (.cells #[.int .i64 (q : Int)] 3)) hgrow (by simp; omega) (fun j hj => (hown.lt j hj).1))
            clear hown' hgrow hnil hown
            rw [HOR.out]
            go_roundw
            case rel => exact ⟨k + 1, ps ++ [q], pl ||| q, _, by omega, rfl, rfl, by go_num, HO.out, HS2, HB7⟩
            case measure => simp [intOf]; omega
      · rw [hq] at HHB
        have HS2 := Lib.hid (show partsS R (LD.take (k + 1)) = (ps, pl) by rw [HST.out]; unfold stepP; simp only [Int.toNat_natCast]; rw [if_pos hq])
        clear hq hown
        go_wp2_with fail
        refine (has_run _ _ _).mono ?_
        rintro e w2 ⟨rfl, rfl⟩
        rw [HHB.out]
        go_wp2_with fail
        go_roundw
        case rel => exact ⟨k + 1, ps, pl, _, by omega, rfl, rfl, by go_num, HOWN.out, HS2, hB⟩
        case measure => simp [intOf]; omega
    · obtain rfl : k = LD.length := by omega
      have HPF := Lib.hid (show partsS (reachS ms) (nodL D 10) = (ps, pl) by rw [HRQ.out, HLQ.out, ← hP.out, List.take_length])
      have HR := Lib.hid (show wr.ownsRow w.heap.size 3 1 v (partsS (reachS ms) (nodL D 10)).1.length ((zs (partsS (reachS ms) (nodL D 10)).1).map (Value.int .i64)) ∧ Below w.heap.size w wr from by
        rw [HPF.out]
        have h1 := HB.out
        rw [← HG.out] at h1
        have h2 := bstep h1 HB5.out
        refine ⟨?_, bstep h2 hB.out⟩
        obtain ⟨h3, h4⟩ := hown
        refine ⟨h3, ?_⟩
        rcases h4 with h4 | ⟨gg, cap, cur, e1, e2, e3⟩
        · exact .inl h4
        · exact .inr ⟨gg, cap, cur, e1, Nat.le_trans h2.size e2, e3⟩)
      obtain ⟨Av, cv, hvv⟩ := own_slice hown
      subst hvv
      clear hown HOWN
      go_wp2_with fail
      go_ret2
      exact ⟨_, rfl, by rw [HDQ.out]; exact HR.out⟩
end Go.Proofs.Ytoaekbhbbejgmaa
