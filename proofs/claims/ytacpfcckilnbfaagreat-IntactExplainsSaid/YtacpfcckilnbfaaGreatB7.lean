/- What the laws of this seat share: part 7. -/
import Derived.Test.YtacpfcckilnbfaaGreatB6

namespace Go.Proofs.YtacpfcckilnbfaaGreat
set_option linter.unusedVariables false
set_option linter.unusedSimpArgs false
open Go.RowKit

abbrev Rft := Int × Int × Int

def encR (r : Rft) : List Value := [.int .i64 r.1, .int .i64 r.2.1, .int .i64 r.2.2]

/-- A refutation that Refute returns. -/
def RefGood (s : Nat) (ls hs : List Mem) (r : Rft) : Prop := (∃ k : Nat, k < ls.length ∧ lackB hs s k = true ∧ r = ((k : Int), 0, 0)) ∨ (∃ a b : Nat, a < 1024 ∧ b < 1024 ∧ IsQ 3 (D3.delM s ls) a ∧ IsQ 3 (D3.delM s ls) b ∧ a &&& b = 0 ∧ r = (-1, (a : Int), (b : Int)))

theorem RefGood.ok {s : Nat} {ls hs : List Mem} {r : Rft} (h : RefGood s ls hs r) : RefOk s ls hs := by
  rcases h with ⟨k, h1, h2, _⟩ | ⟨a, b, _, _, h1, h2, h3, _⟩
  · exact .inl ⟨k, h1, h2⟩
  · exact .inr ⟨a, b, h1, h2, h3⟩

/-- What refuted returns. -/
def RfdIs (ls hs : List Mem) (L : List Nat) (rs : List Rft) (e : Ending) : Prop := ∃ b : Bool, e = .returned (.bool b) ∧ (b = true → ∀ t, t ∈ L → RefOk t ls hs) ∧ (rs.length = L.length ∧ (∀ (i t : Nat) (r : Rft), L[i]? = some t → rs[i]? = some r → RefGood t ls hs r) → b = true)

theorem dpcheckR_run (P Q : Nat → Prop) (ls hs : List Mem) (vl vh : Value) (s : Nat) (r : Rft) (hsx : s < 2 ^ ls.length) (w : World) (hl : ls.length ≤ 7) (h1 : MemsAt P 3 w vl ls) (h2 : MemsAt Q 3 w vh hs) (hp : PairM ls hs) :
    Calls Tryz.prog 25 #[.agg #[vl], .agg #[vh], .int .i64 (s : Int), .agg #[.int .i64 r.1, .int .i64 r.2.1, .int .i64 r.2.2]] w fun e w' => (∃ b : Bool, e = .returned (.bool b) ∧ (b = true → RefOk s ls hs) ∧ (RefGood s ls hs r → b = true)) ∧ Below w.heap.size w w' := by
  by_cases hg : RefGood s ls hs r
  · have hok := hg.ok
    rcases hg with ⟨k, k1, k2, rfl⟩ | ⟨a, b, a1, b1, a2, b2, ab, rfl⟩
    · refine (dpcheckN_run P Q ls hs vl vh k s k1 hsx w hl h1 h2 hp).mono ?_
      rintro e w' ⟨rfl, hb⟩
      exact ⟨⟨_, rfl, fun _ => hok, fun _ => k2⟩, hb⟩
    · refine (dpcheckT_run P Q ls hs vl vh s a b a1 b1 a2 b2 ab hsx w hl h1 h2 hp).mono ?_
      rintro e w' ⟨rfl, hb⟩
      exact ⟨⟨true, rfl, fun _ => hok, fun _ => rfl⟩, hb⟩
  · refine (dpcheckI_run P Q ls hs vl vh s r.1 r.2.1 r.2.2 hsx w hl h1 h2 hp).mono ?_
    rintro e w' ⟨⟨b, rfl, hb⟩, hb2⟩
    exact ⟨⟨b, rfl, hb, fun h => absurd h hg⟩, hb2⟩

set_option maxRecDepth 100000 in
set_option maxHeartbeats 8000000 in
theorem inrefuted_run (P Q : Nat → Prop) (ls hs : List Mem) (vl vh : Value) (L : List Nat) (rs : List Rft) (vS vR : Value) (R1 R2 : Nat → Prop) (w : World) (hS1 : NodesAt R1 w vS (zs L)) (hR1 : RowAt 3 encR R2 w vR rs) (hL1 : ∀ t, t ∈ L → t < 2 ^ ls.length) (hL2 : L.length ≤ 1024) (hl : ls.length ≤ 7) (h1 : MemsAt P 3 w vl ls) (h2 : MemsAt Q 3 w vh hs) (hp : PairM ls hs) :
    Calls Tryz.prog 80 #[.agg #[vl], .agg #[vh], vS, vR] w fun e w' => RfdIs ls hs L rs e ∧ Below w.heap.size w w' := by
  have HN1 := Lib.hid (fun W (hb : Below w.heap.size w W) => hS1.below hb)
  have HR1 := Lib.hid (fun W (hb : Below w.heap.size w W) => hR1.below hb)
  obtain ⟨As, cs, rfl⟩ := hS1.slice
  obtain ⟨Ar, cr, rfl, _, _⟩ := hR1.slice
  have hzl : (zs L).length = L.length := by unfold zs; simp
  rw [hzl] at HN1 ⊢
  have HLT := Lib.hid hL1
  clear hS1 hR1 hL1 hzl
  obtain ⟨m, hm⟩ : ∃ m, L.length = m := ⟨_, rfl⟩
  obtain ⟨q, hq⟩ : ∃ q, rs.length = q := ⟨_, rfl⟩
  have HMm := Lib.hid hm
  have HQm := Lib.hid hq
  rw [hm] at HN1 hL2 ⊢
  rw [hq] at HR1 ⊢
  clear hm hq
  obtain ⟨A, c, rfl⟩ := h1.slice
  obtain ⟨B, d, rfl⟩ := h2.slice
  have hlen := hp.len
  have hokl := hp.okl
  have hokh := hp.okh
  have hdec := hp.decl
  have HDL := Lib.hid (fun W (h : MemsAt P 3 W (.slice A ls.length c) ls) => declared_run P 3 ls _ W (by omega) h)
  have HDH := Lib.hid (fun W (h : MemsAt Q 3 W (.slice B hs.length d) hs) => declared_run Q 3 hs _ W (by omega) h)
  rw [hdec] at HDH
  rw [hlen] at h2 HDH hokh ⊢
  obtain ⟨n, hn⟩ : ∃ n, ls.length = n := ⟨_, rfl⟩
  have HN := Lib.hid hn
  have HNH := Lib.hid hlen
  rw [hn] at HNH
  have HD := Lib.hid (fun k (h : (declS ls ls.length).testBit k = true) => declS_bit h)
  have HDM := Lib.hid (fun k (h : (declS ls ls.length).testBit k = true) => declS_memD h)
  have hDl : declS ls ls.length < 1024 := declS_lt ls _ (by omega)
  generalize declS ls ls.length = D at HDL HDH hDl HD HDM
  rw [hn] at h1 h2 HDL HDH hokl hokh hl HD ⊢
  have HP := Lib.hid hp
  have HOL := Lib.hid hokl
  have HOH := Lib.hid hokh
  have HPA := Lib.hid (PA.new h1 h2)
  clear h1 h2 hp hokl hokh hn hdec hlen
  go_enter Tryz.func80, Tryz.ntmps80
  go_upto_region 1 with fail
  generalize ((w.alloc (.cells #[.slice A n c] 27)).alloc (.cells #[.slice B n d] 27)) = W1 at *
  generalize w.heap.size = g at HPA ⊢
  have l0 := HPA.out.cs.1
  have h0 := HPA.out.cs.2.1
  by_cases hmq : q = m
  · subst hmq
    go_wp2_with fail
    go_loopw [18] (fun t W => ∃ j : Nat, j ≤ q ∧ t = .int .i64 (j : Int) ∧ Hid (∀ i t, i < j → L[i]? = some t → RefOk t ls hs) ∧ Hid (Below W1.heap.size W1 W)) (fun t _ => q - (intOf t).toNat)
    case atStart => exact ⟨0, Nat.zero_le _, rfl, Lib.hid (fun i t h => absurd h (by omega)), Lib.hid (bref _)⟩
    case round =>
      obtain ⟨j, hj, rfl, hOk, hBe⟩ := hrel
      clear l0 h0
      by_cases hlt : j < q
      · obtain ⟨t, ht⟩ : ∃ t, L[j]? = some t := ⟨_, List.getElem?_eq_getElem (by rw [HMm.out]; exact hlt)⟩
        obtain ⟨r, hr⟩ : ∃ r, rs[j]? = some r := ⟨_, List.getElem?_eq_getElem (by rw [HQm.out]; exact hlt)⟩
        obtain ⟨An, cn', hAn, hcl⟩ := HN1.out _ (HPA.out.to hBe.out).bel
        injection hAn with q1 q2 q3
        subst q1
        obtain ⟨bn, on, hbn, _, hcn⟩ := hcl j (by unfold zs; rw [List.length_map, HMm.out]; exact hlt)
        subst hbn
        rw [zs_getD ht] at hcn
        obtain ⟨br, orr, hbr, _, _, hrc⟩ := (HR1.out _ (HPA.out.to hBe.out).bel).at_ hr
        subst hbr
        have r0 : wr.cell? ⟨br, orr + j * 3, none⟩ = some (.int .i64 r.1) := hrc 0 _ rfl
        have r1 := hrc 1 _ rfl
        have r2 := hrc 2 _ rfl
        have ht2 := HLT.out t (List.mem_of_getElem? ht)
        have HT2 := Lib.hid ht2
        have hpa := HPA.out.to hBe.out
        have HPR := Lib.hid hpa
        have HKE := Lib.hid (show ∀ W W', W.cell? ⟨g, 0, none⟩ = some (.slice A n c) ∧ W.cell? ⟨g + 1, 0, none⟩ = some (.slice B n d) ∧ W.cell? ⟨br, orr + j * 3, none⟩ = some (.int .i64 r.1) ∧ W.cell? ⟨br, orr + j * 3 + 1, none⟩ = some (.int .i64 r.2.1) ∧ W.cell? ⟨br, orr + j * 3 + 2, none⟩ = some (.int .i64 r.2.2) ∧ PA P Q w g (.slice A n c) (.slice B n d) ls hs W → Below W.heap.size W W' →
          W'.cell? ⟨g, 0, none⟩ = some (.slice A n c) ∧ W'.cell? ⟨g + 1, 0, none⟩ = some (.slice B n d) ∧ W'.cell? ⟨br, orr + j * 3, none⟩ = some (.int .i64 r.1) ∧ W'.cell? ⟨br, orr + j * 3 + 1, none⟩ = some (.int .i64 r.2.1) ∧ W'.cell? ⟨br, orr + j * 3 + 2, none⟩ = some (.int .i64 r.2.2) ∧ PA P Q w g (.slice A n c) (.slice B n d) ls hs W' from fun W W' h hb =>
            ⟨(hb.cell (cell_lt h.1)).trans h.1, (hb.cell (cell_lt h.2.1)).trans h.2.1, (hb.cell (cell_lt h.2.2.1)).trans h.2.2.1, (hb.cell (cell_lt h.2.2.2.1)).trans h.2.2.2.1, (hb.cell (cell_lt h.2.2.2.2.1)).trans h.2.2.2.2.1, h.2.2.2.2.2.to hb⟩)
        have hS := Lib.hid (HKE.out _ _ ⟨hpa.cs.1, hpa.cs.2.1, r0, r1, r2, hpa⟩ (bdrew (bref wr)))
        have HTT := Lib.hid ht
        have HRR := Lib.hid hr
        have HBZ := Lib.hid (bstep hBe.out (bdrew (bref wr)))
        clear hcl hrc hpa q2 q3 r0 r1 r2 ht2
        go_upto_region 6 with fail
        clear hcn
        go_region_held3 (fun W => W.cell? ⟨g, 0, none⟩ = some (.slice A n c) ∧ W.cell? ⟨g + 1, 0, none⟩ = some (.slice B n d) ∧ W.cell? ⟨br, orr + j * 3, none⟩ = some (.int .i64 r.1) ∧ W.cell? ⟨br, orr + j * 3 + 1, none⟩ = some (.int .i64 r.2.1) ∧ W.cell? ⟨br, orr + j * 3 + 2, none⟩ = some (.int .i64 r.2.2) ∧ PA P Q w g (.slice A n c) (.slice B n d) ls hs W) (first | exact hS.out | exact hSK | go_keep)
          (first
            | (go_at_call 25; refine (dpcheckR_run P Q ls hs _ _ t r HT2.out _ (by rw [HN.out]; exact hl) (by exact (show _ ∧ _ ∧ _ ∧ _ ∧ _ ∧ PA P Q w g (.slice A n c) (.slice B n d) ls hs _ from by assumption).2.2.2.2.2.ml) (by exact (show _ ∧ _ ∧ _ ∧ _ ∧ _ ∧ PA P Q w g (.slice A n c) (.slice B n d) ls hs _ from by assumption).2.2.2.2.2.mh) HP.out).mono ?_; rintro e WK ⟨⟨b, rfl, hb1, hb2⟩, hbK⟩; have hSK := HKE.out _ _ (by assumption) hbK; have HBK := Lib.hid (bstep HBZ.out hbK); have HB1 := Lib.hid hb1; have HB2 := Lib.hid hb2; clear hb1 hb2 hbK))
        all_goals
          have HPZ := Lib.hid hSK.2.2.2.2.2.bel
          clear hSK
          cases b
          · have HF := Lib.hid (show ¬ (∀ (i t : Nat) (r : Rft), L[i]? = some t → rs[i]? = some r → RefGood t ls hs r) from fun h => by have := HB2.out (h j t r HTT.out HRR.out); cases this)
            go_wp2_with fail
            go_ret
            exact ⟨⟨false, rfl, (fun h => by cases h), fun h => absurd h.2 HF.out⟩, HPZ.out⟩
          · have HO1 := Lib.hid (show ∀ i t', i < j + 1 → L[i]? = some t' → RefOk t' ls hs from fun i t' hi ht' => by
              rcases Nat.lt_or_ge i j with h | h
              · exact hOk.out i t' h ht'
              · obtain rfl : i = j := by omega
                rw [HTT.out] at ht'
                injection ht' with e
                subst e
                exact HB1.out (by first | rfl | trivial))
            go_wp2_with fail
            go_roundw
            case rel => exact ⟨j + 1, hlt, by go_num, HO1, HBK⟩
            case measure => simp [intOf]; omega
      · obtain rfl : j = q := by omega
        have HPZ := Lib.hid (HPA.out.to hBe.out).bel
        have HO1 := Lib.hid (show ∀ t, t ∈ L → RefOk t ls hs from fun t ht => by
          obtain ⟨i, hi, e⟩ := List.getElem_of_mem ht
          exact hOk.out i t (by rw [← HMm.out]; exact hi) (by rw [List.getElem?_eq_getElem hi, e]))
        go_wp2_with fail
        go_ret
        exact ⟨⟨true, rfl, (fun _ => HO1.out), fun _ => rfl⟩, HPZ.out⟩
  · have hmqi : ¬ (q : Int) = (m : Int) := by omega
    have HPZ := Lib.hid HPA.out.bel
    go_wp2_with fail
    go_ret
    exact ⟨⟨false, rfl, (fun h => by cases h), fun h => absurd (by rw [← HMm.out, ← HQm.out]; exact h.1) hmq⟩, HPZ.out⟩

end Go.Proofs.YtacpfcckilnbfaaGreat
