/- intact.Explain: why a member is befouled. -/
import Derived.Test.YtacpfcckilnbfaaGreatExplain
namespace Go.Proofs.YtacpfcckilnbfaaGreat
set_option linter.unusedVariables false
set_option linter.unusedSimpArgs false
open Go.RowKit

theorem PA.far {P Q : Nat → Prop} {w0 W W' : World} {g xb : Nat} {vl vh : Value} {ls hs : List Mem} (h : PA P Q w0 g vl vh ls hs W) (hg : W.grownBy W' (some xb)) (hx : g + 2 ≤ xb) (hw : w0.heap.size ≤ g) (hP : ∀ b, P b → b < g) (hQ : ∀ b, Q b → b < g) : PA P Q w0 g vl vh ls hs W' :=
  ⟨(hg.block _ (Array.getElem?_eq_some_iff.1 h.l).1 (by simp; omega)).trans h.l, (hg.block _ (Array.getElem?_eq_some_iff.1 h.h).1 (by simp; omega)).trans h.h, h.ml.both (fun q hq hp => hg.block q hq (by have := hP q hp; simp; omega)) (fun _ _ h => h), h.mh.both (fun q hq hp => hg.block q hq (by have := hQ q hp; simp; omega)) (fun _ _ h => h), bgrownC h.bel hg (by omega)⟩
/-- Behind the set that lacks v no dispensable set lies. -/
theorem around_bad {ls hs : List Mem} {s v a t : Nat} {n : Nat} {L : List Nat} (hn : ls.length = n) (hv : v < n) (h : OfIs s ls hs a) (hin : InT (D3.delM s ls)) (hav : a.testBit v = false) (hL : ArIs n s v L) (ht : t ∈ L) : ¬ (AvT hs t ∧ InT (D3.delM t ls)) := by
  rintro ⟨h1, h2⟩
  obtain ⟨t1, t2, t3⟩ := (hL.2.2 t).1 ht
  rcases h with ⟨h0, _⟩ | ⟨_, L0, hL0, ha⟩
  · exact h0 hin
  · have h5 := bf_sub (n := ls.length) ((hL0.2.2 t).2 ⟨by rw [hn]; exact t1, t2, h1, h2⟩)
    rw [ha, outS_bit, decide_eq_true (by omega), Bool.true_and, Bool.not_eq_false'] at hav
    rw [h5 v hav] at t3; cases t3
theorem av_of {ls hs : List Mem} {s : Nat} (hp : PairM ls hs) (hl : ls.length ≤ 10) (h : ∀ j, j < ls.length → lackB hs s j = false) : AvT hs s := by
  have hlh : hs.length ≤ 10 := by rw [hp.len]; exact hl
  by_cases h0 : outS hs.length s = 0
  · exact .inl h0
  · have hf : ∀ k, (outS hs.length s).testBit k = true → k < ls.length ∧ (hs.getD k (false, .mk 0 [] [])).1 = true ∧ satB 3 (trOf hs k) ((outS hs.length s : Nat) : Int) = true := fun k hk => by
      have hk2 := hk
      rw [outS_bit, Bool.and_eq_true, decide_eq_true_iff, Bool.not_eq_true', hp.len] at hk2
      have h1 := h k hk2.1
      unfold lackB at h1
      rw [hk2.2, Bool.not_false, Bool.true_and, Bool.or_eq_false_iff, Bool.not_eq_false', Bool.not_eq_false'] at h1
      exact ⟨hk2.1, h1.1, h1.2⟩
    refine .inr ⟨h0, fun k hk => ?_, fun k hk => ?_⟩
    · rw [declS_iff, (hf k hk).2.1, decide_eq_true (by rw [hp.len]; exact (hf k hk).1)]; rfl
    · rw [uns_iff (outS_lt _ _ hlh) (by omega)]
      cases hb : (outS hs.length s).testBit k
      · rfl
      · rw [(hf k hb).2.2]; rfl
theorem ref_not {ls hs : List Mem} {s : Nat} {e : Ending} (hp : PairM ls hs) (hl : ls.length ≤ 10) (h : RefIs s ls hs e) (hn : ¬ (AvT hs s ∧ InT (D3.delM s ls))) :
    (∃ k : Nat, k < ls.length ∧ lackB hs s k = true ∧ e = .returned (.tuple #[.agg #[.int .i64 (k : Int), .int .i64 0, .int .i64 0], .int .i64 0])) ∨
    (∃ a b : Nat, a < 1024 ∧ b < 1024 ∧ IsQ 3 (D3.delM s ls) a ∧ IsQ 3 (D3.delM s ls) b ∧ a &&& b = 0 ∧ e = .returned (.tuple #[.agg #[.int .i64 (-1), .int .i64 (a : Int), .int .i64 (b : Int)], .int .i64 0])) := by
  rcases h with ⟨k, hk, hb, _, he⟩ | ⟨hno, ⟨a, b, he, ha, hg, hb10, hb0⟩ | ⟨_, hi⟩⟩
  · exact .inl ⟨k, hk, hb, he⟩
  · have hll : (D3.delM s ls).length ≤ 10 := by rw [D3.delM_len]; exact hl
    have ha10 : a < 1024 := Nat.lt_of_lt_of_le (sub_lt ha.1.2.1) (pow_1024 hll)
    refine .inr ⟨a, b, ha10, hb10, ha.1, ⟨hb0, fun k hk => ?_, hg.closed⟩, ?_, he⟩
    · have := hg.sub k hk
      rw [Nat.testBit_and, Bool.and_eq_true] at this; exact this.2
    · apply Nat.eq_of_testBit_eq
      intro k
      rw [Nat.testBit_and, Nat.zero_testBit]
      cases hbk : b.testBit k
      · rw [Bool.and_false]
      · have := hg.sub k hbk
        rw [Nat.testBit_and, Bool.and_eq_true, outS_bit, Bool.and_eq_true, Bool.not_eq_true'] at this
        rw [this.1.2]; rfl
  · exact absurd ⟨av_of hp hl hno, hi⟩ hn
theorem ref_rft {ls hs : List Mem} {s : Nat} {e : Ending} (hp : PairM ls hs) (hl : ls.length ≤ 10) (h : RefIs s ls hs e) (hn : ¬ (AvT hs s ∧ InT (D3.delM s ls))) :
    ∃ r : Rft, RefGood s ls hs r ∧ e = .returned (.tuple #[.agg #[.int .i64 r.1, .int .i64 r.2.1, .int .i64 r.2.2], .int .i64 0]) := by
  rcases ref_not hp hl h hn with ⟨k, h1, h2, he⟩ | ⟨p, q, h1, h2, h3, h4, h5, he⟩
  · exact ⟨((k : Int), 0, 0), .inl ⟨k, h1, h2, rfl⟩, he⟩
  · exact ⟨(-1, (p : Int), (q : Int)), .inr ⟨p, q, h1, h2, h3, h4, h5, rfl⟩, he⟩
theorem infoRft : (Tryz.prog.info? 42).map (fun i => (i.zero, i.size, i.bytes)) = some (some (.agg #[.int .i64 0, .int .i64 0, .int .i64 0]), 3, 24) := by kernel_rfl

/-- The explanation of a befouled member. -/
def Ex4 (s v : Nat) (ls hs : List Mem) (e : Ending) (w' : World) : Prop := ∃ (rv : Value) (rs : List Rft), e = .returned (.tuple #[.agg #[.int .i64 4, .int .i64 0, .int .i64 0, .int .i64 0, rv], .int .i64 0]) ∧ RowAt 3 encR (fun _ => True) w' rv rs ∧ ∃ L, ArIs ls.length s v L ∧ rs.length = L.length ∧ ∀ (i t : Nat) (r : Rft), L[i]? = some t → rs[i]? = some r → RefGood t ls hs r
set_option maxRecDepth 100000 in
set_option maxHeartbeats 8000000 in
theorem inexplain4_run (P Q : Nat → Prop) (ls hs : List Mem) (vl vh : Value) (s v a : Nat) (hsx : s < 2 ^ ls.length) (hvx : v < ls.length) (ha : OfIs s ls hs a) (hav : a.testBit v = false) (hin : InT (D3.delM s ls)) (hsv : s.testBit v = false) (w : World) (hPw : ∀ b, P b → b < w.heap.size) (hQw : ∀ b, Q b → b < w.heap.size) (hl : ls.length ≤ 7) (h1 : MemsAt P 3 w vl ls) (h2 : MemsAt Q 3 w vh hs) (hp : PairM ls hs) :
    Calls Tryz.prog 39 #[.agg #[vl], .agg #[vh], .int .i64 (s : Int), .int .i64 (v : Int)] w fun e w' => Ex4 s v ls hs e w' ∧ Below w.heap.size w w' := by
  have HS := Lib.hid hsx
  have HV := Lib.hid hvx
  have HA := Lib.hid ha
  clear hsx hvx ha
  have HAV := Lib.hid hav
  have HIN := Lib.hid hin
  have HSV := Lib.hid hsv
  have HPw := Lib.hid hPw
  have HQw := Lib.hid hQw
  clear hav hin hsv hPw hQw
  obtain ⟨A, c, rfl⟩ := h1.slice
  obtain ⟨B, d, rfl⟩ := h2.slice
  have hlen := hp.len
  have hokl := hp.okl
  have hokh := hp.okh
  have hdec := hp.decl
  have HDL := Lib.hid (fun W (h : MemsAt P 3 W (.slice A ls.length c) ls) => declared_run P 3 ls _ W (by omega) h)
  have HDH := Lib.hid (fun W (h : MemsAt Q 3 W (.slice B hs.length d) hs) => declared_run Q 3 hs _ W (by omega) h)
  rw [hdec] at HDH
  rw [hlen] at h2 HDH hokh ⊢
  obtain ⟨n, hn⟩ : ∃ n, ls.length = n := ⟨_, rfl⟩
  have HN := Lib.hid hn
  have HNH := Lib.hid hlen
  rw [hn] at HNH
  have HD := Lib.hid (fun k (h : (declS ls ls.length).testBit k = true) => declS_bit h)
  have HDM := Lib.hid (fun k (h : (declS ls ls.length).testBit k = true) => declS_memD h)
  have hDl : declS ls ls.length < 1024 := declS_lt ls _ (by omega)
  generalize declS ls ls.length = D at HDL HDH hDl HD HDM
  rw [hn] at h1 h2 HDL HDH hokl hokh hl HD ⊢
  have HP := Lib.hid hp
  have HOL := Lib.hid hokl
  have HOH := Lib.hid hokh
  have hpn := PA.new h1 h2
  have hz2 : ((w.alloc (.cells #[.slice A n c] 27)).alloc (.cells #[.slice B n d] 27)).heap.size = w.heap.size + 2 := by rw [alloc_sz, alloc_sz]
  have HPA := Lib.hid (hpn.to (balloc (bref _) (.cells #[.int .i64 0, .int .i64 0, .int .i64 0, .int .i64 0, .slice none 0 0] 61)))
  have HRB := Lib.hid (show (((w.alloc (.cells #[.slice A n c] 27)).alloc (.cells #[.slice B n d] 27)).alloc (.cells #[.int .i64 0, .int .i64 0, .int .i64 0, .int .i64 0, .slice none 0 0] 61)).heap[w.heap.size + 2]? = some (.cells #[.int .i64 0, .int .i64 0, .int .i64 0, .int .i64 0, .slice none 0 0] 61) from alloc_at hz2)
  clear hpn
  clear h1 h2 hp hokl hokh hn hdec hlen
  go_enter Tryz.func39, Tryz.ntmps39
  go_upto_region 1 with fail
  generalize (((w.alloc (.cells #[.slice A n c] 27)).alloc (.cells #[.slice B n d] 27)).alloc (.cells #[.int .i64 0, .int .i64 0, .int .i64 0, .int .i64 0, .slice none 0 0] 61)) = W1 at *
  clear hz2
  generalize hg : w.heap.size = g at HPA HRB ⊢
  have HG := Lib.hid hg
  clear hg
  have l0 := HPA.out.cs.1
  have h0 := HPA.out.cs.2.1
  go_wp2_with fail
  refine (inof_run P Q ls hs _ _ s HS.out _ (by rw [HN.out]; exact hl) HPA.out.ml HPA.out.mh HP.out).mono ?_
  rintro e W1x ⟨⟨a', rfl, hof⟩, hbx⟩
  have HPA1 := Lib.hid (HPA.out.to hbx)
  obtain rfl := of_uniq HP.out (by rw [HN.out]; omega) HA.out hof
  clear hof
  have HBZ := Lib.hid hbx
  clear hbx l0 h0
  have l1 := HPA1.out.cs.1
  have h1 := HPA1.out.cs.2.1
  have HRB1 := Lib.hid ((HBZ.out.block _ (Array.getElem?_eq_some_iff.1 HRB.out).1).trans HRB.out)
  have hvn : (v : Int) < (n : Int) := by have := HV.out; rw [HN.out] at this; omega
  have hv0 : ¬ (v : Int) < 0 := by omega
  have hal := HA.out.lt
  have hN7 : 2 ^ ls.length ≤ 2 ^ 10 := Nat.pow_le_pow_right (by omega) (by rw [HN.out]; omega)
  have ha10 : a < 1024 := by omega
  have HHA := Lib.hid (show hasB (a : Int) (v : Int) = a.testBit v from hasB_bit ha10 (by have := HV.out; rw [HN.out] at this; omega))
  clear hal hN7
  go_wp2_with fail
  refine (has_run _ _ _).mono ?_
  rintro e W2x ⟨rfl, rfl⟩
  rw [HHA.out, HAV.out]
  have hs10 : s < 1024 := by have h := HS.out; have : 2 ^ ls.length ≤ 2 ^ 10 := Nat.pow_le_pow_right (by omega) (by rw [HN.out]; omega); omega
  have HHS := Lib.hid (show hasB (s : Int) (v : Int) = false from by rw [hasB_bit hs10 (by have := HV.out; rw [HN.out] at this; omega)]; exact HSV.out)
  go_wp2_with fail
  refine (inints_run P ls _ s _ (by rw [HN.out]; omega) HS.out HPA1.out.ml (by rw [HN.out]; exact HOL.out)).mono ?_
  rintro e W3x ⟨⟨y, rfl, hy⟩, hb3⟩
  obtain rfl : y = true := hy.2 HIN.out
  have HPA3 := Lib.hid (HPA1.out.to hb3)
  have HRB3 := Lib.hid ((hb3.block _ (Array.getElem?_eq_some_iff.1 HRB1.out).1).trans HRB1.out)
  clear hb3 hy l1 h1
  go_wp2_with fail
  refine (has_run _ _ _).mono ?_
  rintro e W4x ⟨rfl, rfl⟩
  rw [HHS.out]
  have hba := balloc (bref W3x) (.cells #[.int .i64 4, .int .i64 0, .int .i64 0, .int .i64 0, .slice none 0 0] 61)
  have HPA4 := Lib.hid (HPA3.out.to hba)
  have HXB := Lib.hid (show (W3x.alloc (.cells #[.int .i64 4, .int .i64 0, .int .i64 0, .int .i64 0, .slice none 0 0] 61)).heap[W3x.heap.size]? = some (.cells #[.int .i64 4, .int .i64 0, .int .i64 0, .int .i64 0, .slice none 0 0] 61) from alloc_at rfl)
  have HRB4 := Lib.hid ((hba.block _ (Array.getElem?_eq_some_iff.1 HRB3.out).1).trans HRB3.out)
  have hxg : g + 3 ≤ W3x.heap.size := by have := (Array.getElem?_eq_some_iff.1 HRB3.out).1; omega
  clear hba
  go_upto_region 14 with fail
  generalize (W3x.alloc (.cells #[.int .i64 4, .int .i64 0, .int .i64 0, .int .i64 0, .slice none 0 0] 61)) = W4 at *
  generalize W3x.heap.size = xb at *
  have l4 := HPA4.out.cs.1
  go_wp2_with fail
  refine (inaround_run P ls _ s v (by have := HV.out; rw [HN.out] at this; omega) _ (by rw [HN.out]; omega) HS.out HPA4.out.ml (by rw [HN.out]; exact HOL.out)).mono ?_
  rintro e WB ⟨⟨vL, L, rfl, hnL, hL⟩, hb5⟩
  have HPA5 := Lib.hid (HPA4.out.to hb5)
  have HXB5 := Lib.hid ((hb5.block _ (Array.getElem?_eq_some_iff.1 HXB.out).1).trans HXB.out)
  have HRB5 := Lib.hid ((hb5.block _ (Array.getElem?_eq_some_iff.1 HRB4.out).1).trans HRB4.out)
  have HL := Lib.hid hL
  have hL2 := hL.2.1
  obtain ⟨An, cn, rfl⟩ := hnL.slice
  have hzl : (zs L).length = L.length := by unfold zs; simp
  have hn2 := hnL.both (w' := WB) (Q := fun b => b ≠ xb) (fun _ _ _ => rfl) (fun b _ hb => by have := (Array.getElem?_eq_some_iff.1 HXB.out).1; have h5 : W4.heap.size ≤ b := hb; omega)
  rw [hzl] at hn2 ⊢
  obtain ⟨m, hm⟩ : ∃ m, L.length = m := ⟨_, rfl⟩
  have HMm := Lib.hid hm
  rw [hm] at hn2 hL2 ⊢
  have HNL := Lib.hid hn2
  obtain ⟨i3, hi3, hy0, hy1, hy2⟩ := info_parts infoRft
  clear hb5 hnL hL hzl hn2 hm l4
  go_wp2_with fail
  go_loopw [77] (fun t W => ∃ (j : Nat) (rv : Value) (rs : List Rft), j ≤ m ∧ t = .int .i64 (j : Int) ∧ Hid (W.ownsRow WB.heap.size 42 3 rv rs.length (flatS encR rs)) ∧ Hid (W.heap[xb]? = some (.cells #[.int .i64 4, .int .i64 0, .int .i64 0, .int .i64 0, rv] 61 (0, 0))) ∧ Hid (rs.length = j ∧ ∀ (i t : Nat) (r : Rft), L[i]? = some t → rs[i]? = some r → RefGood t ls hs r) ∧ Hid (WB.grownBy W (some xb))) (fun t _ => m - (intOf t).toNat)
  case atStart => exact ⟨0, .slice none 0 0, [], Nat.zero_le _, rfl, Lib.hid (World.ownsRow_nil _ _ _ _), HXB5, Lib.hid ⟨rfl, fun i t r _ h => by simp at h⟩, Lib.hid (World.grownBy.refl _ _)⟩
  case round =>
    obtain ⟨j, rv, rs, hj, rfl, hOwn, hBox, hRs, hGr⟩ := hrel
    have hwb := (Array.getElem?_eq_some_iff.1 HXB5.out).1
    have hwr := hGr.out.size
    by_cases hlt : j < m
    · obtain ⟨t, ht⟩ : ∃ t, L[j]? = some t := ⟨_, List.getElem?_eq_getElem (by rw [HMm.out]; exact hlt)⟩
      obtain ⟨An', cn', hAn, hcl⟩ := HNL.out.both (w' := wr) (Q := fun b => b ≠ xb) (fun q hq hP => hGr.out.block q hq (fun e => hP (Option.some.inj e))) (fun _ _ h => h)
      injection hAn with q1 q2 q3
      subst q1
      obtain ⟨bn, on, hbn, _, hcn⟩ := hcl j (by unfold zs; rw [List.length_map, HMm.out]; exact hlt)
      subst hbn
      rw [zs_getD ht] at hcn
      have hpa := HPA5.out.far hGr.out (by omega) (by rw [HG.out]; exact Nat.le_refl _) (fun b hb => by have := HPw.out b hb; rw [HG.out] at this; exact this) (fun b hb => by have := HQw.out b hb; rw [HG.out] at this; exact this)
      have HPR := Lib.hid hpa
      have l0 := hpa.cs.1
      have h0 := hpa.cs.2.1
      have HBAD := Lib.hid (around_bad rfl HV.out HA.out HIN.out HAV.out HL.out (List.mem_of_getElem? ht))
      have HT2 := Lib.hid (show t < 2 ^ ls.length from ((HL.out.2.2 t).1 (List.mem_of_getElem? ht)).1)
      have HTT := Lib.hid ht
      clear hcl ht hpa q2 q3
      go_wp2_with fail
      clear hcn
      refine (dprefute_run P Q ls hs _ _ t HT2.out _ (by rw [HN.out]; exact hl) HPR.out.ml HPR.out.mh HP.out).mono ?_
      rintro e We ⟨hri, hbe⟩
      obtain ⟨r, hrg, rfl⟩ := ref_rft HP.out (by rw [HN.out]; omega) hri HBAD.out
      have HRG := Lib.hid hrg
      have hze := hbe.size
      have hba3 := bstep hbe (balloc (bref We) (.cells #[.int .i64 r.1, .int .i64 r.2.1, .int .i64 r.2.2] 42))
      have HXR := Lib.hid (show (We.alloc (.cells #[.int .i64 r.1, .int .i64 r.2.1, .int .i64 r.2.2] 42)).heap[We.heap.size]? = some (.cells #[.int .i64 r.1, .int .i64 r.2.1, .int .i64 r.2.2] 42 (0, 0)) from alloc_at rfl)
      have HX18 := Lib.hid ((hba3.block _ (Array.getElem?_eq_some_iff.1 hBox.out).1).trans hBox.out)
      have HO18 := Lib.hid (own_keepG hOwn.out (fun j' _ _ hl => hba3.block j' hl))
      have HG18 := Lib.hid (grown_trans hGr.out (grown_below hba3))
      have HZ18 := Lib.hid (alloc_sz We (.cells #[.int .i64 r.1, .int .i64 r.2.1, .int .i64 r.2.2] 42))
      have hxw := (Array.getElem?_eq_some_iff.1 hBox.out).1
      have HOW := Lib.hid (fun q (hq : rv.ownBlock = some q) => (HO18.out.lt q hq).1)
      clear hri hbe hrg hba3 l0 h0
      go_upto_region 18 with fail
      generalize (We.alloc (.cells #[.int .i64 r.1, .int .i64 r.2.1, .int .i64 r.2.2] 42)) = W18 at *
      have hxy : xb < We.heap.size := by omega
      generalize We.heap.size = yb at *
      have x4 : W18.cell? ⟨xb, 4, none⟩ = some rv := cell_of_row _ _ 4 _ _ (0, 0) HX18.out
      have y0 : W18.cell? ⟨yb, 0, none⟩ = some (.int .i64 r.1) := cell_of_row _ _ 0 _ _ (0, 0) HXR.out
      have y1 : W18.cell? ⟨yb, 1, none⟩ = some (.int .i64 r.2.1) := cell_of_row _ _ 1 _ _ (0, 0) HXR.out
      have y2 : W18.cell? ⟨yb, 2, none⟩ = some (.int .i64 r.2.2) := cell_of_row _ _ 2 _ _ (0, 0) HXR.out
      have hlj := hRs.out.1
      have hcs := HO18.out
      have hcn : (flatS encR rs).length = j * 3 := by have := hcs.1; omega
      have HCSA := Lib.hid (hcs.alloc (.cells #[.int .i64 r.1, .int .i64 r.2.1, .int .i64 r.2.2] 42))
      rw [hlj] at HCSA
      have HNEW := Lib.hid (cell_three_new W18 (.int .i64 r.1) (.int .i64 r.2.1) (.int .i64 r.2.2) 42)
      have HBA := Lib.hid (balloc (bref W18) (.cells #[.int .i64 r.1, .int .i64 r.2.1, .int .i64 r.2.2] 42))
      have HSZ := Lib.hid (alloc_sz W18 (.cells #[.int .i64 r.1, .int .i64 r.2.1, .int .i64 r.2.2] 42))
      have hx18 := (Array.getElem?_eq_some_iff.1 HX18.out).1
      have hz18 : yb < W18.heap.size := by have := HZ18.out; omega
      clear hcs hlj
      go_wp2_with (at_builtin; refine wpList_append_lies _ rfl _ _ 59 rfl WB.heap.size 42 i3 (.agg #[.int .i64 0, .int .i64 0, .int .i64 0]) 3 24 Tryz.underlying59 hi3 hy0 hy1 hy2 rfl (by decide) _ j (flatS encR rs) rfl (by exact HCSA.out) ⟨_, 0, none⟩ 1 1 [.int .i64 r.1, .int .i64 r.2.1, .int .i64 r.2.2] rfl rfl (by exact HNEW.out) (by intro u hu; simp at hu; rcases hu with rfl | rfl | rfl <;> rfl) (by omega) (by unfold maxLen; omega) (by omega) (by have := HSZ.out; omega) _ rfl ?_; intro g4 cap4 W19 hown4 hgrow4 hat4 hlt4; have hbx : W19.heap[xb]? = some (.cells #[.int .i64 4, .int .i64 0, .int .i64 0, .int .i64 0, rv] 61 (0, 0)) := (hgrow4.block xb (by have := HSZ.out; omega) (fun e => by have := HOW.out _ e.symm; omega)).trans ((HBA.out.block xb hx18).trans HX18.out); have s4 : W19.cell? ⟨xb, 4, none⟩ = some rv := cell_of_row _ _ 4 _ _ (0, 0) hbx; have sf : W19.frozen? ⟨xb, 4, none⟩ = false := by simp [World.frozen?, hbx])
      have hgB : (W18.alloc (.cells #[.int .i64 r.1, .int .i64 r.2.1, .int .i64 r.2.2] 42)).grownBy W19 rv.ownBlock := ⟨hgrow4.os, hgrow4.tape, hgrow4.output, hgrow4.size, hgrow4.block⟩
      have hfl : flatS encR rs ++ [.int .i64 r.1, .int .i64 r.2.1, .int .i64 r.2.2] = flatS encR (rs ++ [r]) := by rw [flatS_append]; rfl
      have HO20 := Lib.hid (show (W19.setCell ⟨xb, 4, none⟩ (.slice (some ⟨g4, 0, none⟩) (j + 1) cap4)).ownsRow WB.heap.size 42 3 (.slice (some ⟨g4, 0, none⟩) (j + 1) cap4) (rs ++ [r]).length (flatS encR (rs ++ [r])) from by
        rw [← hfl, List.length_append, hRs.out.1]
        exact own_keepG hown4 (fun j' _ hB _ => Below.heap_setCell _ _ _ _ (by show j' ≠ xb; omega)))
      have HX20 := Lib.hid (show (W19.setCell ⟨xb, 4, none⟩ (.slice (some ⟨g4, 0, none⟩) (j + 1) cap4)).heap[xb]? = some (.cells #[.int .i64 4, .int .i64 0, .int .i64 0, .int .i64 0, .slice (some ⟨g4, 0, none⟩) (j + 1) cap4] 61 (0, 0)) from by simp [World.setCell, Array.getElem?_modify, hbx])
      have HR20 := Lib.hid (show (rs ++ [r]).length = j + 1 ∧ ∀ (i t : Nat) (r' : Rft), L[i]? = some t → (rs ++ [r])[i]? = some r' → RefGood t ls hs r' from ⟨by rw [List.length_append, hRs.out.1]; rfl, fun i t' r' e1 e2 => by
        rcases Nat.lt_or_ge i rs.length with hi | hi
        · rw [List.getElem?_append_left hi] at e2
          exact hRs.out.2 i t' r' e1 e2
        · have hij : i = rs.length := by have := (List.getElem?_eq_some_iff.1 e2).1; simp at this; omega
          subst hij
          rw [hRs.out.1, HTT.out] at e1
          have e3 : r' = r := by simpa using e2.symm
          cases e1
          rw [e3]; exact HRG.out⟩)
      have HG20 := Lib.hid (grown_at (gown (grown_trans HG18.out (grown_below HBA.out)) hgB (fun q hq => HOW.out q hq)) 4 (.slice (some ⟨g4, 0, none⟩) (j + 1) cap4))
      clear hown4 hgrow4 hat4 hlt4 hbx s4 sf hgB hfl
      go_roundw
      case rel => exact ⟨j + 1, _, rs ++ [r], by omega, by go_num, HO20, HX20, HR20, HG20⟩
      case measure => simp [intOf]; omega
    · obtain rfl : j = m := by omega
      have HROW := Lib.hid (RowAt.of_own (n := 3) (enc := encR) (P := fun b => WB.heap.size ≤ b) (fun _ => rfl) hOwn.out (by have := hRs.out.1; unfold maxLen; omega) (fun b hb _ => hb))
      obtain ⟨Arv, crv, rfl, _, _⟩ := HROW.out.slice
      have hbx := hBox.out
      have HRBZ := Lib.hid ((hGr.out.block _ (Array.getElem?_eq_some_iff.1 HRB5.out).1 (by simp; omega)).trans HRB5.out)
      have HBW := Lib.hid (bgrownC HPA5.out.bel hGr.out (by have := HG.out; omega))
      have x0' : wr.cell? ⟨xb, 0, none⟩ = some (.int .i64 4) := cell_of_row _ _ 0 _ _ (0, 0) hbx
      have x1' : wr.cell? ⟨xb, 1, none⟩ = some (.int .i64 0) := cell_of_row _ _ 1 _ _ (0, 0) hbx
      have x2' : wr.cell? ⟨xb, 2, none⟩ = some (.int .i64 0) := cell_of_row _ _ 2 _ _ (0, 0) hbx
      have x3' : wr.cell? ⟨xb, 3, none⟩ = some (.int .i64 0) := cell_of_row _ _ 3 _ _ (0, 0) hbx
      have x4' : wr.cell? ⟨xb, 4, none⟩ = some (.slice Arv rs.length crv) := cell_of_row _ _ 4 _ _ (0, 0) hbx
      have HEX := Lib.hid (show ∀ w' : World, w'.heap.size = wr.heap.size → (∀ q, q ≠ g + 2 → w'.heap[q]? = wr.heap[q]?) → Ex4 s v ls hs (.returned (.tuple #[.agg #[.int .i64 4, .int .i64 0, .int .i64 0, .int .i64 0, .slice Arv rs.length crv], .int .i64 0])) w' from fun w' hsz hfar => ⟨_, rs, rfl, HROW.out.both (by omega) (fun q hq hp => hfar q (by have : WB.heap.size ≤ q := hp; omega)) (fun _ _ _ => trivial), L, HL.out, by rw [hRs.out.1, HMm.out], hRs.out.2⟩)
      clear hbx
      have hrb := HRBZ.out
      have z0 : wr.cell? ⟨g + 2, 0, none⟩ = some (.int .i64 0) := cell_of_row _ _ 0 _ _ (0, 0) hrb
      have zf0 : wr.frozen? ⟨g + 2, 0, none⟩ = false := by simp [World.frozen?, hrb]
      have z1 : wr.cell? ⟨g + 2, 1, none⟩ = some (.int .i64 0) := cell_of_row _ _ 1 _ _ (0, 0) hrb
      have zf1 : wr.frozen? ⟨g + 2, 1, none⟩ = false := by simp [World.frozen?, hrb]
      have z2 : wr.cell? ⟨g + 2, 2, none⟩ = some (.int .i64 0) := cell_of_row _ _ 2 _ _ (0, 0) hrb
      have zf2 : wr.frozen? ⟨g + 2, 2, none⟩ = false := by simp [World.frozen?, hrb]
      have z3 : wr.cell? ⟨g + 2, 3, none⟩ = some (.int .i64 0) := cell_of_row _ _ 3 _ _ (0, 0) hrb
      have zf3 : wr.frozen? ⟨g + 2, 3, none⟩ = false := by simp [World.frozen?, hrb]
      have z4 : wr.cell? ⟨g + 2, 4, none⟩ = some (.slice none 0 0) := cell_of_row _ _ 4 _ _ (0, 0) hrb
      have zf4 : wr.frozen? ⟨g + 2, 4, none⟩ = false := by simp [World.frozen?, hrb]
      have hset := set5_row (.int .i64 4) (.int .i64 0) (.int .i64 0) (.int .i64 0) (.slice Arv rs.length crv) hrb
      have Q0 := Lib.hid (cell_of_row _ _ 0 _ _ (0, 0) hset : (((((wr.setCell ⟨g + 2, 0, none⟩ (.int .i64 4)).setCell ⟨g + 2, 1, none⟩ (.int .i64 0)).setCell ⟨g + 2, 2, none⟩ (.int .i64 0)).setCell ⟨g + 2, 3, none⟩ (.int .i64 0)).setCell ⟨g + 2, 4, none⟩ (.slice Arv rs.length crv)).cell? ⟨g + 2, 0, none⟩ = some (.int .i64 4))
      have Q1 := Lib.hid (cell_of_row _ _ 1 _ _ (0, 0) hset : (((((wr.setCell ⟨g + 2, 0, none⟩ (.int .i64 4)).setCell ⟨g + 2, 1, none⟩ (.int .i64 0)).setCell ⟨g + 2, 2, none⟩ (.int .i64 0)).setCell ⟨g + 2, 3, none⟩ (.int .i64 0)).setCell ⟨g + 2, 4, none⟩ (.slice Arv rs.length crv)).cell? ⟨g + 2, 1, none⟩ = some (.int .i64 0))
      have Q2 := Lib.hid (cell_of_row _ _ 2 _ _ (0, 0) hset : (((((wr.setCell ⟨g + 2, 0, none⟩ (.int .i64 4)).setCell ⟨g + 2, 1, none⟩ (.int .i64 0)).setCell ⟨g + 2, 2, none⟩ (.int .i64 0)).setCell ⟨g + 2, 3, none⟩ (.int .i64 0)).setCell ⟨g + 2, 4, none⟩ (.slice Arv rs.length crv)).cell? ⟨g + 2, 2, none⟩ = some (.int .i64 0))
      have Q3 := Lib.hid (cell_of_row _ _ 3 _ _ (0, 0) hset : (((((wr.setCell ⟨g + 2, 0, none⟩ (.int .i64 4)).setCell ⟨g + 2, 1, none⟩ (.int .i64 0)).setCell ⟨g + 2, 2, none⟩ (.int .i64 0)).setCell ⟨g + 2, 3, none⟩ (.int .i64 0)).setCell ⟨g + 2, 4, none⟩ (.slice Arv rs.length crv)).cell? ⟨g + 2, 3, none⟩ = some (.int .i64 0))
      have Q4 := Lib.hid (cell_of_row _ _ 4 _ _ (0, 0) hset : (((((wr.setCell ⟨g + 2, 0, none⟩ (.int .i64 4)).setCell ⟨g + 2, 1, none⟩ (.int .i64 0)).setCell ⟨g + 2, 2, none⟩ (.int .i64 0)).setCell ⟨g + 2, 3, none⟩ (.int .i64 0)).setCell ⟨g + 2, 4, none⟩ (.slice Arv rs.length crv)).cell? ⟨g + 2, 4, none⟩ = some (.slice Arv rs.length crv))
      have HFB := Lib.hid (show Below w.heap.size w (((((wr.setCell ⟨g + 2, 0, none⟩ (.int .i64 4)).setCell ⟨g + 2, 1, none⟩ (.int .i64 0)).setCell ⟨g + 2, 2, none⟩ (.int .i64 0)).setCell ⟨g + 2, 3, none⟩ (.int .i64 0)).setCell ⟨g + 2, 4, none⟩ (.slice Arv rs.length crv)) from by
        have hG := HG.out
        exact (bset (bset (bset (bset (bset HBW.out (p := ⟨g + 2, 0, none⟩) (by show w.heap.size ≤ g + 2; omega) _) (p := ⟨g + 2, 1, none⟩) (by show w.heap.size ≤ g + 2; omega) _) (p := ⟨g + 2, 2, none⟩) (by show w.heap.size ≤ g + 2; omega) _) (p := ⟨g + 2, 3, none⟩) (by show w.heap.size ≤ g + 2; omega) _) (p := ⟨g + 2, 4, none⟩) (by show w.heap.size ≤ g + 2; omega) _))
      clear hset hrb
      go_wp2_with fail
      have q0 := Q0.out
      have q1 := Q1.out
      have q2 := Q2.out
      have q3 := Q3.out
      have q4 := Q4.out
      refine bodyPost_ret (v := .tuple #[.agg #[.int .i64 4, .int .i64 0, .int .i64 0, .int .i64 0, .slice Arv rs.length crv], .int .i64 0]) ?_ rfl ⟨HEX.out _ (by simp [World.setCell]) (fun q hq => (Below.heap_setCell _ _ _ q hq).trans ((Below.heap_setCell _ _ _ q hq).trans ((Below.heap_setCell _ _ _ q hq).trans ((Below.heap_setCell _ _ _ q hq).trans (Below.heap_setCell _ _ _ q hq))))), HFB.out⟩
      simp [results, Tryz.results39, go_sem, q0, q1, q2, q3, q4]
end Go.Proofs.YtacpfcckilnbfaaGreat
