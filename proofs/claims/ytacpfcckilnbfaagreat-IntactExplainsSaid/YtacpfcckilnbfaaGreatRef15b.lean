/- The reference's Check of explanations: where it accepts a befouled one. -/
import Derived.Test.YtacpfcckilnbfaaGreatWithoutR
namespace Go.Proofs.YtacpfcckilnbfaaGreat
set_option linter.unusedVariables false
set_option linter.unusedSimpArgs false
open Go.RowKit

theorem rdcheckG_run (P Q : Nat → Prop) (ls hs : List Mem) (vl vh : Value) (s : Nat) (r : Rft) (hg : RefGood s ls hs r) (hsx : s < 2 ^ ls.length) (w : World) (hl : ls.length ≤ 7) (h1 : MemsAt P 3 w vl ls) (h2 : MemsAt Q 3 w vh hs) (hp : PairM ls hs) :
    Calls Tryz.prog 24 #[.agg #[vl], .agg #[vh], .int .i64 (s : Int), .agg #[.int .i64 r.1, .int .i64 r.2.1, .int .i64 r.2.2]] w fun e w' => e = .returned (.bool true) ∧ Below w.heap.size w w' := by
  rcases hg with ⟨k, k1, k2, rfl⟩ | ⟨a, b, a1, b1, a2, b2, ab, rfl⟩
  · exact rdcheckN_run P Q ls hs vl vh k s k1 k2 hsx w hl h1 h2 hp
  · exact rdcheckT_run P Q ls hs vl vh s a b a1 b1 a2 b2 ab hsx w hl h1 h2 hp

set_option maxRecDepth 100000 in
set_option maxHeartbeats 8000000 in
theorem rincheckT4_run (P Q : Nat → Prop) (ls hs : List Mem) (vl vh : Value) (s v : Nat) (rs : List Rft) (vR : Value) (R2 : Nat → Prop) (hsx : s < 2 ^ ls.length) (hvx : v < ls.length) (hgd : ∀ L, ArIs ls.length s v L → rs.length = L.length ∧ ∀ (i t : Nat) (r : Rft), L[i]? = some t → rs[i]? = some r → RefGood t ls hs r) (w : World) (hR1 : RowAt 3 encR R2 w vR rs) (hl : ls.length ≤ 7) (h1 : MemsAt P 3 w vl ls) (h2 : MemsAt Q 3 w vh hs) (hp : PairM ls hs) :
    Calls Tryz.prog 40 #[.agg #[vl], .agg #[vh], .int .i64 (s : Int), .int .i64 (v : Int), .agg #[.int .i64 4, .int .i64 0, .int .i64 0, .int .i64 0, vR]] w fun e w' => e = .returned (.bool true) ∧ Below w.heap.size w w' := by
  have HS := Lib.hid hsx
  have HV := Lib.hid hvx
  clear hsx hvx
  have HGD := Lib.hid hgd
  clear hgd
  have HR1 := Lib.hid (fun W (hb : Below w.heap.size w W) => hR1.below hb)
  obtain ⟨Ar, cr, rfl, _, _⟩ := hR1.slice
  obtain ⟨q, hq⟩ : ∃ q, rs.length = q := ⟨_, rfl⟩
  have HQm := Lib.hid hq
  rw [hq] at HR1 ⊢
  clear hR1 hq
  obtain ⟨A, c, rfl⟩ := h1.slice
  obtain ⟨B, d, rfl⟩ := h2.slice
  have hlen := hp.len
  have hokl := hp.okl
  have hokh := hp.okh
  have hdec := hp.decl
  have HDL := Lib.hid (fun W (h : MemsAt P 3 W (.slice A ls.length c) ls) => declared_run P 3 ls _ W (by omega) h)
  have HDH := Lib.hid (fun W (h : MemsAt Q 3 W (.slice B hs.length d) hs) => declared_run Q 3 hs _ W (by omega) h)
  rw [hdec] at HDH
  rw [hlen] at h2 HDH hokh ⊢
  obtain ⟨n, hn⟩ : ∃ n, ls.length = n := ⟨_, rfl⟩
  have HN := Lib.hid hn
  have HNH := Lib.hid hlen
  rw [hn] at HNH
  have HD := Lib.hid (fun k (h : (declS ls ls.length).testBit k = true) => declS_bit h)
  have HDM := Lib.hid (fun k (h : (declS ls ls.length).testBit k = true) => declS_memD h)
  have hDl : declS ls ls.length < 1024 := declS_lt ls _ (by omega)
  generalize declS ls ls.length = D at HDL HDH hDl HD HDM
  rw [hn] at h1 h2 HDL HDH hokl hokh hl HD ⊢
  have HP := Lib.hid hp
  have HOL := Lib.hid hokl
  have HOH := Lib.hid hokh
  have hpn := PA.new h1 h2
  have hz2 : ((w.alloc (.cells #[.slice A n c] 27)).alloc (.cells #[.slice B n d] 27)).heap.size = w.heap.size + 2 := by rw [alloc_sz, alloc_sz]
  have HPA := Lib.hid (hpn.to (balloc (bref _) (.cells #[.int .i64 4, .int .i64 0, .int .i64 0, .int .i64 0, .slice Ar q cr] 61)))
  have HRB := Lib.hid (show (((w.alloc (.cells #[.slice A n c] 27)).alloc (.cells #[.slice B n d] 27)).alloc (.cells #[.int .i64 4, .int .i64 0, .int .i64 0, .int .i64 0, .slice Ar q cr] 61)).heap[w.heap.size + 2]? = some (.cells #[.int .i64 4, .int .i64 0, .int .i64 0, .int .i64 0, .slice Ar q cr] 61) from alloc_at hz2)
  clear hpn
  clear h1 h2 hp hokl hokh hn hdec hlen
  go_enter Tryz.func40, Tryz.ntmps40
  go_upto_region 1 with fail
  generalize (((w.alloc (.cells #[.slice A n c] 27)).alloc (.cells #[.slice B n d] 27)).alloc (.cells #[.int .i64 4, .int .i64 0, .int .i64 0, .int .i64 0, .slice Ar q cr] 61)) = W1 at *
  clear hz2
  generalize hg : w.heap.size = g at HPA HRB ⊢
  have HG := Lib.hid hg
  clear hg
  have l0 := HPA.out.cs.1
  have h0 := HPA.out.cs.2.1
  go_wp2_with fail
  refine (rfbegin_run P Q ls hs _ _ s HS.out _ (by rw [HN.out]; exact hl) HPA.out.ml HPA.out.mh HP.out).mono ?_
  rintro e W1x ⟨rfl, hbx⟩
  have HPA1 := Lib.hid (HPA.out.to hbx)
  have HBZ := Lib.hid hbx
  clear hbx l0 h0
  have l1 := HPA1.out.cs.1
  have h1 := HPA1.out.cs.2.1
  have HRB1 := Lib.hid ((HBZ.out.block _ (Array.getElem?_eq_some_iff.1 HRB.out).1).trans HRB.out)
  have hvn : (v : Int) < (n : Int) := by have := HV.out; rw [HN.out] at this; omega
  have hv0 : ¬ (v : Int) < 0 := by omega
  have hrb := HRB1.out
  have z0_W1x : W1x.cell? ⟨g + 2, 0, none⟩ = some (.int .i64 4) := cell_of_row _ _ 0 _ _ (0, 0) hrb
  have z1_W1x : W1x.cell? ⟨g + 2, 1, none⟩ = some (.int .i64 0) := cell_of_row _ _ 1 _ _ (0, 0) hrb
  have z2_W1x : W1x.cell? ⟨g + 2, 2, none⟩ = some (.int .i64 0) := cell_of_row _ _ 2 _ _ (0, 0) hrb
  have z3_W1x : W1x.cell? ⟨g + 2, 3, none⟩ = some (.int .i64 0) := cell_of_row _ _ 3 _ _ (0, 0) hrb
  have z4_W1x : W1x.cell? ⟨g + 2, 4, none⟩ = some (.slice Ar q cr) := cell_of_row _ _ 4 _ _ (0, 0) hrb
  clear hrb
  go_wp2_with fail
  refine (rwithout_run P ls _ s v (by have := HV.out; rw [HN.out] at this; omega) _ (by rw [HN.out]; omega) HS.out HPA1.out.ml (by rw [HN.out]; exact HOL.out)).mono ?_
  rintro e W2x ⟨⟨vL, L, rfl, hnL, hL⟩, hb2⟩
  obtain ⟨hgl, hgd⟩ := HGD.out L hL
  have HGG := Lib.hid hgd
  have HPA2 := Lib.hid (HPA1.out.to hb2)
  have HLT := Lib.hid (fun t (ht : t ∈ L) => ((hL.2.2 t).1 ht).1)
  have hL2 := hL.2.1
  have y4 := (hb2.cell (cell_lt z4_W1x)).trans z4_W1x
  have HY4 := Lib.hid y4
  obtain ⟨An, cn, rfl⟩ := hnL.slice
  have hzl : (zs L).length = L.length := by unfold zs; simp
  have hn2 := hnL.both (w' := W2x) (Q := fun _ => True) (fun _ _ _ => rfl) (fun _ _ _ => trivial)
  rw [hzl] at hn2 ⊢
  have hlq : L.length = q := by rw [← hgl]; exact HQm.out
  have HLQ := Lib.hid hlq
  rw [hlq] at hn2 hL2 ⊢
  have HNL := Lib.hid hn2
  clear hb2 hnL hL hzl hn2 hlq hgl hgd z0_W1x z1_W1x z2_W1x z3_W1x z4_W1x l1 h1
  go_wp2_with fail
  clear y4
  go_loopw [152] (fun t W => ∃ j : Nat, j ≤ q ∧ t = .int .i64 (j : Int) ∧ Hid (Below W2x.heap.size W2x W)) (fun t _ => q - (intOf t).toNat)
  case atStart => exact ⟨0, Nat.zero_le _, rfl, Lib.hid (bref _)⟩
  case round =>
    obtain ⟨j, hj, rfl, hBe⟩ := hrel
    by_cases hlt : j < q
    · obtain ⟨t, ht⟩ : ∃ t, L[j]? = some t := ⟨_, List.getElem?_eq_getElem (by rw [HLQ.out]; exact hlt)⟩
      obtain ⟨r, hr⟩ : ∃ r, rs[j]? = some r := ⟨_, List.getElem?_eq_getElem (by rw [HQm.out]; exact hlt)⟩
      obtain ⟨An', cn', hAn, hcl⟩ := HNL.out.below hBe.out
      injection hAn with q1 q2 q3
      subst q1
      obtain ⟨bn, on, hbn, _, hcn⟩ := hcl j (by unfold zs; rw [List.length_map, HLQ.out]; exact hlt)
      subst hbn
      rw [zs_getD ht] at hcn
      have hpa := HPA2.out.to hBe.out
      obtain ⟨br, orr, hbr, _, _, hrc⟩ := (HR1.out _ hpa.bel).at_ hr
      subst hbr
      have r0 : wr.cell? ⟨br, orr + j * 3, none⟩ = some (.int .i64 r.1) := hrc 0 _ rfl
      have r1 := hrc 1 _ rfl
      have r2 := hrc 2 _ rfl
      have HT2 := Lib.hid (HLT.out t (List.mem_of_getElem? ht))
      have HRG := Lib.hid (HGG.out j t r ht hr)
      have e4 := (hBe.out.cell (cell_lt HY4.out)).trans HY4.out
      have HKE := Lib.hid (show ∀ W W', W.cell? ⟨g, 0, none⟩ = some (.slice A n c) ∧ W.cell? ⟨g + 1, 0, none⟩ = some (.slice B n d) ∧ W.cell? ⟨g + 2, 4, none⟩ = some (.slice (some ⟨br, orr, none⟩) q cr) ∧ W.cell? ⟨br, orr + j * 3, none⟩ = some (.int .i64 r.1) ∧ W.cell? ⟨br, orr + j * 3 + 1, none⟩ = some (.int .i64 r.2.1) ∧ W.cell? ⟨br, orr + j * 3 + 2, none⟩ = some (.int .i64 r.2.2) ∧ PA P Q w g (.slice A n c) (.slice B n d) ls hs W → Below W.heap.size W W' →
        W'.cell? ⟨g, 0, none⟩ = some (.slice A n c) ∧ W'.cell? ⟨g + 1, 0, none⟩ = some (.slice B n d) ∧ W'.cell? ⟨g + 2, 4, none⟩ = some (.slice (some ⟨br, orr, none⟩) q cr) ∧ W'.cell? ⟨br, orr + j * 3, none⟩ = some (.int .i64 r.1) ∧ W'.cell? ⟨br, orr + j * 3 + 1, none⟩ = some (.int .i64 r.2.1) ∧ W'.cell? ⟨br, orr + j * 3 + 2, none⟩ = some (.int .i64 r.2.2) ∧ PA P Q w g (.slice A n c) (.slice B n d) ls hs W' from fun W W' h hb =>
          ⟨(hb.cell (cell_lt h.1)).trans h.1, (hb.cell (cell_lt h.2.1)).trans h.2.1, (hb.cell (cell_lt h.2.2.1)).trans h.2.2.1, (hb.cell (cell_lt h.2.2.2.1)).trans h.2.2.2.1, (hb.cell (cell_lt h.2.2.2.2.1)).trans h.2.2.2.2.1, (hb.cell (cell_lt h.2.2.2.2.2.1)).trans h.2.2.2.2.2.1, h.2.2.2.2.2.2.to hb⟩)
      have hS := Lib.hid (HKE.out _ _ ⟨hpa.cs.1, hpa.cs.2.1, e4, r0, r1, r2, hpa⟩ (bdrew (bref wr)))
      have HBZ2 := Lib.hid (bstep hBe.out (bdrew (bref wr)))
      clear hcl hrc hpa q2 q3 r0 r1 r2 e4
      go_upto_region 22 with fail
      clear hcn
      go_region_held3 (fun W => W.cell? ⟨g, 0, none⟩ = some (.slice A n c) ∧ W.cell? ⟨g + 1, 0, none⟩ = some (.slice B n d) ∧ W.cell? ⟨g + 2, 4, none⟩ = some (.slice (some ⟨br, orr, none⟩) q cr) ∧ W.cell? ⟨br, orr + j * 3, none⟩ = some (.int .i64 r.1) ∧ W.cell? ⟨br, orr + j * 3 + 1, none⟩ = some (.int .i64 r.2.1) ∧ W.cell? ⟨br, orr + j * 3 + 2, none⟩ = some (.int .i64 r.2.2) ∧ PA P Q w g (.slice A n c) (.slice B n d) ls hs W) (first | exact hS.out | exact hSK | go_keep)
        (first
          | (go_at_call 24; refine (rdcheckG_run P Q ls hs _ _ t r HRG.out HT2.out _ (by rw [HN.out]; exact hl) (by exact (show _ ∧ _ ∧ _ ∧ _ ∧ _ ∧ _ ∧ PA P Q w g (.slice A n c) (.slice B n d) ls hs _ from by assumption).2.2.2.2.2.2.ml) (by exact (show _ ∧ _ ∧ _ ∧ _ ∧ _ ∧ _ ∧ PA P Q w g (.slice A n c) (.slice B n d) ls hs _ from by assumption).2.2.2.2.2.2.mh) HP.out).mono ?_; rintro e WK ⟨rfl, hbK⟩; have hSK := HKE.out _ _ (by assumption) hbK; have HBK := Lib.hid (bstep HBZ2.out hbK); clear hbK))
      all_goals
        clear hSK
        go_wp2_with fail
        go_roundw
        case rel => exact ⟨j + 1, hlt, by go_num, HBK⟩
        case measure => simp [intOf]; omega
    · obtain rfl : j = q := by omega
      have HPZ := Lib.hid (HPA2.out.to hBe.out).bel
      go_wp2_with fail
      go_ret
      exact ⟨rfl, HPZ.out⟩
end Go.Proofs.YtacpfcckilnbfaaGreat
