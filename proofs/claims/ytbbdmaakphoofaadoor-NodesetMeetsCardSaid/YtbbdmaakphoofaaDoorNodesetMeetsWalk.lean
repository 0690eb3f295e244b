/- The walk of the law NodesetMeets. -/
import Derived.Test.YtbbdmaakphoofaaDoorAwake01
import Derived.Test.YtbbdmaakphoofaaDoorSets
import Derived.Test.YtbbdmaakphoofaaDoorMeetMath
namespace Go.Proofs.YtbbdmaakphoofaaDoor
set_option linter.unusedVariables false
set_option linter.unusedSimpArgs false
open Go.RowKit

theorem bgrownC {w a b : World} {sb : Nat} (h : Below w.heap.size w a) (hg : a.grownBy b (some sb)) (hs : w.heap.size ≤ sb) : Below w.heap.size w b :=
  h.grown hg h.size (fun k hk => by cases hk; exact hs)
theorem own_lowM {W : World} {B B' : Nat} {v : Value} {n : Nat} {vs : List Value} (h : W.ownsRow B 3 1 v n vs) (hB : B' ≤ B) : W.ownsRow B' 3 1 v n vs := by
  refine ⟨h.1, ?_⟩
  rcases h.2 with h2 | ⟨gg, cap, cur, e1, e2, e3, e4⟩
  · exact .inl h2
  · exact .inr ⟨gg, cap, cur, e1, Nat.le_trans hB e2, e3, e4⟩
theorem measW (i N : Nat) (h : i < N) : N - (intOf (Value.int .i64 ((i : Int) + 1))).toNat < N - (intOf (Value.int .i64 (i : Int))).toNat := by simp [intOf]; omega
theorem numW (i : Nat) : Value.int .i64 ((i : Int) + 1) = Value.int .i64 ((i + 1 : Nat) : Int) := rfl
theorem beqW (p k : Nat) (h : p ≠ k) : ((p : Int) == (k : Int)) = false := by rw [beq_eq_false_iff_ne]; omega
theorem listCellW {P : Nat → Prop} {w : World} {A : Option Addr} {n c j : Nat} {l : List Nat} (h : NodesAt P w (.slice A n c) (zs l)) (hj : j < l.length) : ∃ b off, A = some ⟨b, off, none⟩ ∧ w.cell? ⟨b, off + j, none⟩ = some (.int .i64 (l.getD j 0 : Nat)) ∧ l[j]? = some (l.getD j 0) := by
  obtain ⟨A', c', e1, e2⟩ := h
  cases e1
  obtain ⟨b, off, e3, _, e5⟩ := e2 j (by rw [zs_len]; exact hj)
  rw [zs_get] at e5
  exact ⟨b, off, e3, e5, by rw [List.getD_eq_getElem?_getD, List.getElem?_eq_getElem hj]; rfl⟩
theorem intCellW {P : Nat → Prop} {w : World} {A : Option Addr} {n c j : Nat} {l : List Int} (h : NodesAt P w (.slice A n c) l) (hj : j < l.length) : ∃ b off, A = some ⟨b, off, none⟩ ∧ w.cell? ⟨b, off + j, none⟩ = some (.int .i64 (l.getD j 0)) ∧ l.getD j 0 ∈ l := by
  obtain ⟨A', c', e1, e2⟩ := h
  cases e1
  obtain ⟨b, off, e3, _, e5⟩ := e2 j hj
  exact ⟨b, off, e3, e5, by rw [List.getD_eq_getElem?_getD, List.getElem?_eq_getElem hj]; exact List.getElem_mem hj⟩
theorem low_row {w W W' : World} {v : Value} {l : List Int} (h : w.heap.size ≤ W.heap.size) (ho : W'.ownsRow W.heap.size 3 1 v l.length (l.map (Value.int .i64))) : NodesAt (fun b => w.heap.size ≤ b) W' v l :=
  (NodesAt.of_own ho).both (Q := fun b => w.heap.size ≤ b) (fun _ _ _ => rfl) (fun k _ hk => Nat.le_trans h hk)

set_option maxRecDepth 100000 in
set_option maxHeartbeats 4000000 in
theorem walkNodesetMeets (a0 : Option Addr) (len0 cap0 : Nat) (z0 : List Int) (w : World) (w0 : IsRow .i64 w a0 len0 cap0 z0) :
    Calls Tryd.prog 7 #[.slice a0 len0 cap0] w fun e w' => e = .returned (.bool true) ∧ Below w.heap.size w w' := by
  obtain ⟨i0, hin, hz0, hz1, hz2⟩ := info_parts infoInt
  have HR := Lib.hid w0
  clear w0
  go_enter Tryd.func7, Tryd.ntmps7
  go_wp2_with fail
  refine (TNew_run _ _ _ _ _ HR.out).mono ?_
  rintro e v0 ⟨rfl, hs0, hb0⟩
  have HS0 := Lib.hid hs0
  have HB0 := Lib.hid hb0
  clear hs0 hb0
  go_wp2_with fail
  refine (TRange_run _ _ 1 8 (by omega) (by omega) (by omega) HS0.out).mono ?_
  rintro e v1 ⟨r, hr0, hr1, rfl, hs1, hg1⟩
  obtain ⟨R, rfl⟩ := Int.eq_ofNat_of_zero_le (show 0 ≤ r by omega)
  have hR8 : R ≤ 8 := by omega
  have HS1 := Lib.hid hs1
  have HB1 := Lib.hid (bgrownC HB0.out hg1 (Nat.le_refl _))
  clear hs1 hg1 HS0 HB0
  go_wp2_with fail
  refine (msets_run _ _ 8 R (by omega) (by omega) HS1.out).mono ?_
  rintro e W1 ⟨v, ls, rfl, hlen, hls, ho1, hs2, hg2⟩
  have h10 : 2 ^ R ≤ 2 ^ 10 := Nat.pow_le_pow_right (by omega) (by omega)
  have HLR := Lib.hid hls
  have HLS := Lib.hid (show ∀ t ∈ ls, t < 1024 from fun t ht => Nat.lt_of_lt_of_le (hls t ht) h10)
  have HB2 := Lib.hid (bgrownC HB1.out hg2 (Nat.le_refl _))
  have HN1 := Lib.hid ((NodesAt.of_ownZ ho1).both (Q := fun b => w.heap.size ≤ b) (fun _ _ _ => rfl) (fun k _ hk => Nat.le_trans HB1.out.size hk))
  obtain ⟨A, c, hv⟩ := own_slice ho1
  subst hv
  clear ho1 hs2 hg2 h10 hls HS1 HB1 hr0 hr1
  obtain ⟨L, hL⟩ : ∃ L, ls.length = L := ⟨_, rfl⟩
  have HL := Lib.hid hL
  rw [hL] at hlen HN1 ⊢
  clear hL
  go_wp2_with fail
  refine (pmeeting_run _ _ ls R (by omega) HLR.out (by rw [HL.out]; omega) _ HN1.out).mono ?_
  rintro e W2 ⟨v2, m, rfl, ho2, hm, hb2⟩
  have HM := Lib.hid hm
  have HMS := Lib.hid (meets_law (show R ≤ 10 by omega) hm)
  have HB3 := Lib.hid (bstep HB2.out hb2)
  have HN3 := Lib.hid (HN1.out.below hb2)
  have HM3 := Lib.hid ((NodesAt.of_ownZ ho2).both (Q := fun b => w.heap.size ≤ b) (fun _ _ _ => rfl) (fun k _ hk => Nat.le_trans HB2.out.size hk))
  have hm24 := hm.2.2
  obtain ⟨A2, c2, hv2⟩ := own_slice ho2
  subst hv2
  obtain ⟨nl, hnl⟩ : ∃ nl, m.length = nl := ⟨_, rfl⟩
  have HNL := Lib.hid hnl
  rw [hnl] at hm24 HM3 ⊢
  clear ho2 hm hb2 hnl HB2 HN1
  go_wp2_with fail
  go_loopw [35] (fun t W => ∃ i : Nat, i ≤ nl ∧ t = .int .i64 i ∧ Hid (NodesAt (fun b => w.heap.size ≤ b) W (.slice A L c) (zs ls)) ∧ Hid (NodesAt (fun b => w.heap.size ≤ b) W (.slice A2 nl c2) (zs m)) ∧ Hid (Below w.heap.size w W)) (fun t _ => nl - (intOf t).toNat)
  case atStart => exact ⟨0, Nat.zero_le _, rfl, HN3, HM3, HB3⟩
  case round =>
    clear HN3 HM3 HB3
    obtain ⟨i, hi, rfl, hN, hM, hB⟩ := hrel
    by_cases hlt : i < nl
    · obtain ⟨bq, oq, rfl, hci, hxi⟩ := listCellW hM.out (show i < m.length by rw [HNL.out]; exact hlt)
      obtain ⟨_, hxl, hxa, hxk⟩ := HMS.out _ (List.mem_of_getElem? hxi)
      generalize m.getD i 0 = x at *
      have HXA := Lib.hid hxa
      have HXK := Lib.hid hxk
      clear hxi hxa hxk
      obtain ⟨W3, hW3⟩ : ∃ W, W = wr := ⟨_, rfl⟩
      subst hW3
      go_wp2_with fail
      refine (rnodesM_run x _ hxl).mono ?_
      rintro e W4 ⟨v4, rfl, ho4, hb4⟩
      have hml := nodM_len x 10
      obtain ⟨K0, hK0⟩ : ∃ K, (nodM x 10).length = K := ⟨_, rfl⟩
      have hown := ho4
      rw [hK0] at hown hml
      have hbs := hb4.size
      clear ho4 hci
      go_wp2_with (at_builtin; refine wpList_append_own _ rfl _ _ 22 rfl W3.heap.size 3 i0 (.int .i64 0) 1 8 Tryd.underlying22 hin hz0 hz1 hz2 rfl (by decide) _ _ _ rfl (hown.alloc _) ⟨W4.heap.size, 0, none⟩ 1 1 [.int .i64 (-1)] rfl rfl (cell_one_new _ _ _) (fun u hu => by simp at hu; subst hu; rfl) (by unfold maxLen; omega) (by omega) (by simp; omega) ?_; intro v' w1 hown' hgrow hnil; obtain ⟨A5, c5, hv5⟩ := own_slice hown'; subst hv5)
      have hbw : Below W3.heap.size W3 w1 := Below.grown (balloc hb4 (.cells #[.int .i64 (-1)] 3)) hgrow (by simp; omega) (fun j hj => (hown.lt j hj).1)
      have HB5 := Lib.hid (bstep hB.out hbw)
      have HN5 := Lib.hid (hN.out.below hbw)
      have HM5 := Lib.hid (hM.out.below hbw)
      have hown2 : w1.ownsRow W3.heap.size 3 1 (.slice A5 (K0 + 1) c5) (nodM x 10 ++ [-1]).length ((nodM x 10 ++ [-1]).map (Value.int .i64)) := by rw [List.map_append, List.length_append, hK0]; exact hown'
      have HNS := Lib.hid (NodesAt.of_own hown2)
      have HKM := Lib.hid (show ∀ k ∈ nodM x 10 ++ [-1], k = -1 ∨ ∃ kk : Nat, k = (kk : Int) ∧ kk < 10 ∧ x.testBit kk = true from fun k hk => by
        rcases List.mem_append.1 hk with h1 | h1
        · exact .inr ((nodM_mem x 10 k).1 h1)
        · exact .inl (List.mem_singleton.1 h1))
      have hlen5 : (nodM x 10 ++ [-1]).length = K0 + 1 := by rw [List.length_append, hK0]; rfl
      generalize nodM x 10 ++ [-1] = ns at *
      have HK := Lib.hid hlen5
      clear hb4 hown hown' hown2 hgrow hnil hbw hbs hN hM hB hK0 hlen5
      rw [show ((K0 : Int) + 1) = ((K0 + 1 : Nat) : Int) from rfl]
      generalize hKK : K0 + 1 = K at *
      have hkl : K ≤ 11 := by omega
      clear hKK hml
      go_loop [44] (fun t => ∃ k : Nat, k ≤ K ∧ t = .int .i64 k) (fun t => K - (intOf t).toNat)
      case atStart => exact ⟨0, Nat.zero_le _, rfl⟩
      case round =>
        obtain ⟨j, hj, rfl⟩ := hrel
        by_cases hlt2 : j < K
        · obtain ⟨bk, ok, rfl, hck, hkm⟩ := intCellW HNS.out (show j < ns.length by rw [HK.out]; exact hlt2)
          have hkk := HKM.out _ hkm
          generalize ns.getD j 0 = k at *
          clear hkm
          rcases hkk with rfl | ⟨kk, rfl, hkk, hbit⟩
          · go_wp2_with fail
            go_loop [13, 57] (fun a t => ∃ (q : Nat) (b : Bool), q ≤ L ∧ a = .bool b ∧ t = .int .i64 q ∧ Hid ((!(ls.take q).any (fun z => x &&& z == 0)) = b)) (fun _ t => L - (intOf t).toNat)
            case atStart => exact ⟨0, true, Nat.zero_le _, rfl, rfl, Lib.hid rfl⟩
            case round =>
              obtain ⟨q, b, hq, rfl, rfl, hA⟩ := hrel
              by_cases hlt3 : q < L
              · obtain ⟨bz, oz, rfl, hcz, hzq⟩ := listCellW HN5.out (show q < ls.length by rw [HL.out]; exact hlt3)
                have hzl := HLS.out _ (List.mem_of_getElem? hzq)
                have HTK := Lib.hid (show (!(ls.take (q + 1)).any (fun z => x &&& z == 0)) = (b && !(x &&& ls.getD q 0 == 0)) by
                  rw [List.take_add_one, hzq, List.any_append, Bool.not_or, hA.out]; simp)
                generalize ls.getD q 0 = z at *
                clear hzq
                have q3 := i64_and_nat (x) z (by omega) (by omega)
                rcases (show b = false ∨ b = true by cases b <;> simp) with rfl | rfl
                · have HT2 := Lib.hid (show (!(ls.take (q + 1)).any (fun z => x &&& z == 0)) = false by rw [HTK.out]; rfl)
                  clear HTK q3
                  go_wp2_with fail
                  go_round
                  case rel => exact ⟨q + 1, false, hlt3, rfl, numW q, HT2⟩
                  case measure => exact measW q L hlt3
                · by_cases hyz : x &&& z = 0
                  · have HT2 := Lib.hid (show (!(ls.take (q + 1)).any (fun z => x &&& z == 0)) = false by rw [HTK.out, hyz]; rfl)
                    have q4 : bits .and .i64 ((x : Nat) : Int) (z : Int) = 0 := by rw [q3, hyz]; rfl
                    clear hyz HTK q3
                    go_wp2_with fail
                    go_round
                    case rel => exact ⟨q + 1, false, hlt3, rfl, numW q, HT2⟩
                    case measure => exact measW q L hlt3
                  · have HT2 := Lib.hid (show (!(ls.take (q + 1)).any (fun z => x &&& z == 0)) = true by rw [HTK.out]; simpa using hyz)
                    have q4 : (bits .and .i64 ((x : Nat) : Int) (z : Int) == 0) = false := by rw [q3]; exact beqW _ 0 hyz
                    have q5 : (bits .and .i64 ((x : Nat) : Int) (z : Int) != 0) = true := congrArg (!·) q4
                    clear hyz HTK q3
                    go_wp2_with fail
                    go_round
                    case rel => exact ⟨q + 1, true, hlt3, by first | rfl | exact congrArg Value.bool q5, numW q, HT2⟩
                    case measure => exact measW q L hlt3
              · obtain rfl : q = L := Nat.le_antisymm hq (Nat.not_lt.1 hlt3)
                obtain rfl : b = true := by
                  have h1 := hA.out
                  rw [← HL.out, List.take_length] at h1
                  rw [← h1, HXA.out]; rfl
                clear hA
                go_wp2_with fail
                go_round
                case rel => exact ⟨j + 1, hlt2, numW j⟩
                case measure => exact measW j K hlt2
          · obtain ⟨hd, _, hdl⟩ := drop_bit x kk hxl hkk hbit
            have HXY := Lib.hid (HXK.out kk hkk hbit)
            have hyl : x - 2 ^ kk < 1024 := by omega
            generalize x - 2 ^ kk = y at *
            have k0 : (0 : Int) ≤ (kk : Int) := by omega
            have k64 : ¬ (64 : Int) ≤ (kk : Int) := by omega
            have kn : ¬ (kk : Int) < 0 := by omega
            clear hbit hdl
            go_wp2_with fail
            go_loop [13, 57] (fun a t => ∃ (q : Nat) (b : Bool), q ≤ L ∧ a = .bool b ∧ t = .int .i64 q ∧ Hid ((!(ls.take q).any (fun z => y &&& z == 0)) = b)) (fun _ t => L - (intOf t).toNat)
            case atStart => exact ⟨0, true, Nat.zero_le _, rfl, rfl, Lib.hid rfl⟩
            case round =>
              obtain ⟨q, b, hq, rfl, rfl, hA⟩ := hrel
              by_cases hlt3 : q < L
              · obtain ⟨bz, oz, rfl, hcz, hzq⟩ := listCellW HN5.out (show q < ls.length by rw [HL.out]; exact hlt3)
                have hzl := HLS.out _ (List.mem_of_getElem? hzq)
                have HTK := Lib.hid (show (!(ls.take (q + 1)).any (fun z => y &&& z == 0)) = (b && !(y &&& ls.getD q 0 == 0)) by
                  rw [List.take_add_one, hzq, List.any_append, Bool.not_or, hA.out]; simp)
                generalize ls.getD q 0 = z at *
                clear hzq
                have q3 := i64_and_nat (y) z (by omega) (by omega)
                rcases (show b = false ∨ b = true by cases b <;> simp) with rfl | rfl
                · have HT2 := Lib.hid (show (!(ls.take (q + 1)).any (fun z => y &&& z == 0)) = false by rw [HTK.out]; rfl)
                  clear HTK q3
                  go_wp2_with fail
                  go_round
                  case rel => exact ⟨q + 1, false, hlt3, rfl, numW q, HT2⟩
                  case measure => exact measW q L hlt3
                · by_cases hyz : y &&& z = 0
                  · have HT2 := Lib.hid (show (!(ls.take (q + 1)).any (fun z => y &&& z == 0)) = false by rw [HTK.out, hyz]; rfl)
                    have q4 : bits .and .i64 ((y : Nat) : Int) (z : Int) = 0 := by rw [q3, hyz]; rfl
                    clear hyz HTK q3
                    go_wp2_with fail
                    go_round
                    case rel => exact ⟨q + 1, false, hlt3, rfl, numW q, HT2⟩
                    case measure => exact measW q L hlt3
                  · have HT2 := Lib.hid (show (!(ls.take (q + 1)).any (fun z => y &&& z == 0)) = true by rw [HTK.out]; simpa using hyz)
                    have q4 : (bits .and .i64 ((y : Nat) : Int) (z : Int) == 0) = false := by rw [q3]; exact beqW _ 0 hyz
                    have q5 : (bits .and .i64 ((y : Nat) : Int) (z : Int) != 0) = true := congrArg (!·) q4
                    clear hyz HTK q3
                    go_wp2_with fail
                    go_round
                    case rel => exact ⟨q + 1, true, hlt3, by first | rfl | exact congrArg Value.bool q5, numW q, HT2⟩
                    case measure => exact measW q L hlt3
              · obtain rfl : q = L := Nat.le_antisymm hq (Nat.not_lt.1 hlt3)
                obtain rfl : b = false := by
                  have h1 := hA.out
                  rw [← HL.out, List.take_length] at h1
                  rw [← h1, HXY.out]; rfl
                clear hA
                go_wp2_with fail
                go_round
                case rel => exact ⟨j + 1, hlt2, numW j⟩
                case measure => exact measW j K hlt2
        · obtain rfl : j = K := Nat.le_antisymm hj (Nat.not_lt.1 hlt2)
          go_wp2_with fail
          go_roundw
          case rel => exact ⟨i + 1, hlt, numW i, HN5, HM5, HB5⟩
          case measure => exact measW i nl hlt
    · obtain rfl : i = nl := Nat.le_antisymm hi (Nat.not_lt.1 hlt)
      have HML := Lib.hid (show ∀ t ∈ m, t < 2 ^ R from fun t ht => (HMS.out t ht).1)
      go_wp2_with fail
      refine (pmeeting_run _ _ m R (by omega) HML.out (by rw [HNL.out]; omega) _ hM.out).mono ?_
      rintro e W6 ⟨v6, b6, rfl, ho6, hl6, hb6⟩
      have HL6 := Lib.hid hl6
      have HB6 := Lib.hid (bstep hB.out hb6)
      have HN6 := Lib.hid (hN.out.below hb6)
      have HV6 := Lib.hid (NodesAt.of_ownZ ho6)
      clear hl6 hb6 ho6 hN hM hB
      go_wp2_with fail
      refine (pleast_run _ _ (zs ls) _ (by rw [zs_len, HL.out]; omega) HN6.out).mono ?_
      rintro e W7 ⟨v7, b7, rfl, ho7, hl7, hb7⟩
      obtain rfl : b6 = b7 := meet_back (show R ≤ 10 by omega) HLR.out HM.out HL6.out hl7
      have HB7 := Lib.hid (bstep HB6.out hb7)
      have HV7 := Lib.hid (HV6.out.below hb7)
      have HU7 := Lib.hid (NodesAt.of_ownZ ho7)
      have h24 : b6.length ≤ 1024 := hl7.2.2
      clear hl7 hb7 ho7
      go_wp2_with fail
      refine (ints_run _ _ _ _ (zs b6) _ (by rw [zs_len]; omega) HV7.out HU7.out).mono ?_
      rintro e W8 ⟨rfl, hb8⟩
      have HB8 := Lib.hid (bstep HB7.out hb8)
      clear hb8
      go_wp2_with fail
      refine (awake01 _).mono ?_
      rintro e wz ⟨rfl, hbz⟩
      have HZ := Lib.hid (bstep HB8.out hbz)
      clear hbz
      go_wp2_with fail
      go_ret
      exact ⟨rfl, HZ.out⟩
end Go.Proofs.YtbbdmaakphoofaaDoor
