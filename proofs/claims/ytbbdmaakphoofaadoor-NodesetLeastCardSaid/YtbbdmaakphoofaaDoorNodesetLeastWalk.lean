/- The walk of the law NodesetLeast. -/
import Derived.Test.YtbbdmaakphoofaaDoorAwake01
import Derived.Test.YtbbdmaakphoofaaDoorSets
namespace Go.Proofs.YtbbdmaakphoofaaDoor
set_option linter.unusedVariables false
set_option linter.unusedSimpArgs false
open Go.RowKit

theorem bgrownC {w a b : World} {sb : Nat} (h : Below w.heap.size w a) (hg : a.grownBy b (some sb)) (hs : w.heap.size ≤ sb) : Below w.heap.size w b :=
  h.grown hg h.size (fun k hk => by cases hk; exact hs)
theorem measQ (i N : Nat) (h : i < N) : N - (intOf (Value.int .i64 ((i : Int) + 1))).toNat < N - (intOf (Value.int .i64 (i : Int))).toNat := by simp [intOf]; omega
theorem numQ (i : Nat) : Value.int .i64 ((i : Int) + 1) = Value.int .i64 ((i + 1 : Nat) : Int) := rfl
theorem beqQ (p k : Nat) (h : p ≠ k) : ((p : Int) == (k : Int)) = false := by rw [beq_eq_false_iff_ne]; omega
theorem listCell {P : Nat → Prop} {w : World} {A : Option Addr} {n c j : Nat} {l : List Nat} (h : NodesAt P w (.slice A n c) (zs l)) (hj : j < l.length) : ∃ b off, A = some ⟨b, off, none⟩ ∧ w.cell? ⟨b, off + j, none⟩ = some (.int .i64 (l.getD j 0 : Nat)) ∧ l[j]? = some (l.getD j 0) := by
  obtain ⟨A', c', e1, e2⟩ := h
  cases e1
  obtain ⟨b, off, e3, _, e5⟩ := e2 j (by rw [zs_len]; exact hj)
  rw [zs_get] at e5
  exact ⟨b, off, e3, e5, by rw [List.getD_eq_getElem?_getD, List.getElem?_eq_getElem hj]; rfl⟩
theorem mem_zs {ls : List Nat} {t : Nat} : ((t : Int) ∈ zs ls) ↔ t ∈ ls := by
  unfold zs
  rw [List.mem_map]
  constructor
  · rintro ⟨a, h1, h2⟩
    have : a = t := by omega
    rw [← this]; exact h1
  · intro h; exact ⟨t, h, rfl⟩
/-- What the law asks of Least's list. -/
theorem least_law {ls l : List Nat} (hls : ∀ t ∈ ls, t < 1024) (h : IsLeast (pz (zs ls)) l) :
    (∀ t ∈ l, t < 1024 ∧ t ∈ ls) ∧ (∀ (i k x y : Nat), l[i]? = some x → l[k]? = some y → i ≠ k → x &&& y ≠ x) ∧ (∀ x ∈ ls, l.any (fun y => y &&& x == y) = true) ∧ l.length ≤ 1024 := by
  have hin : ∀ t ∈ l, t < 1024 ∧ t ∈ ls := fun t ht => by
    obtain ⟨h1, h2, _⟩ := (h.2.1 t).1 ht
    exact ⟨h1, mem_zs.1 (pz_iff.1 h2).2⟩
  have hpz : ∀ t ∈ ls, pz (zs ls) t = true := fun t ht => pz_iff.2 ⟨hls t ht, mem_zs.2 ht⟩
  refine ⟨hin, fun i k x y hx hy hne he => ?_, fun x hx => ?_, h.2.2⟩
  · have hxm := List.mem_of_getElem? hx
    have hym := List.mem_of_getElem? hy
    have hxy : x = y := ((h.2.1 y).1 hym).2.2 x (hpz x (hin x hxm).2) (subB_iff.2 he)
    subst hxy
    obtain ⟨hi, e1⟩ := List.getElem?_eq_some_iff.1 hx
    obtain ⟨hk, e2⟩ := List.getElem?_eq_some_iff.1 hy
    rcases Nat.lt_trichotomy i k with h1 | h1 | h1
    · have := List.pairwise_iff_getElem.1 h.1 i k hi hk h1
      rw [e1, e2] at this; exact Nat.lt_irrefl _ this
    · exact hne h1
    · have := List.pairwise_iff_getElem.1 h.1 k i hk hi h1
      rw [e1, e2] at this; exact Nat.lt_irrefl _ this
  · obtain ⟨y, hy, hs, hz⟩ := least_below (p := pz (zs ls)) x x (Nat.le_refl _) (hpz x hx)
    have hyl : y ∈ l := (h.2.1 y).2 ⟨pz_lt hy, hy, hz⟩
    exact List.any_eq_true.2 ⟨y, hyl, by simpa using subB_iff.1 hs⟩

set_option maxRecDepth 100000 in
set_option maxHeartbeats 4000000 in
theorem walkNodesetLeast (a0 : Option Addr) (len0 cap0 : Nat) (z0 : List Int) (w : World) (w0 : IsRow .i64 w a0 len0 cap0 z0) :
    Calls Tryd.prog 6 #[.slice a0 len0 cap0] w fun e w' => e = .returned (.bool true) ∧ Below w.heap.size w w' := by
  have HR := Lib.hid w0
  clear w0
  go_enter Tryd.func6, Tryd.ntmps6
  go_wp2_with fail
  refine (TNew_run _ _ _ _ _ HR.out).mono ?_
  rintro e v0 ⟨rfl, hs0, hb0⟩
  have HS0 := Lib.hid hs0
  have HB0 := Lib.hid hb0
  clear hs0 hb0
  go_wp2_with fail
  refine (TRange_run _ _ 1 9 (by omega) (by omega) (by omega) HS0.out).mono ?_
  rintro e v1 ⟨r, hr0, hr1, rfl, hs1, hg1⟩
  obtain ⟨R, rfl⟩ := Int.eq_ofNat_of_zero_le (show 0 ≤ r by omega)
  have hsz1 := hg1.size
  have HS1 := Lib.hid hs1
  have HB1 := Lib.hid (bgrownC HB0.out hg1 (Nat.le_refl _))
  clear hs1 hg1 HS0 HB0
  go_wp2_with fail
  refine (msets_run _ _ 12 R (by omega) (by omega) HS1.out).mono ?_
  rintro e W1 ⟨v, ls, rfl, hlen, hls, ho1, hs2, hg2⟩
  have h10 : 2 ^ R ≤ 2 ^ 10 := Nat.pow_le_pow_right (by omega) (by omega)
  have HLS := Lib.hid (show ∀ t ∈ ls, t < 1024 from fun t ht => Nat.lt_of_lt_of_le (hls t ht) h10)
  have HB2 := Lib.hid (bgrownC HB1.out hg2 (Nat.le_refl _))
  have HN1 := Lib.hid ((NodesAt.of_ownZ ho1).both (Q := fun b => w.heap.size ≤ b) (fun _ _ _ => rfl) (fun k _ hk => Nat.le_trans HB1.out.size hk))
  obtain ⟨A, c, hv⟩ := own_slice ho1
  subst hv
  clear ho1 hs2 hg2 h10 hls HS1 HB1 hr0 hr1 hsz1
  obtain ⟨L, hL⟩ : ∃ L, ls.length = L := ⟨_, rfl⟩
  have HL := Lib.hid hL
  rw [hL] at hlen HN1 ⊢
  clear hL
  go_wp2_with fail
  refine (pleast_run _ _ (zs ls) _ (by rw [zs_len, HL.out]; omega) HN1.out).mono ?_
  rintro e W2 ⟨v2, l, rfl, ho2, hl2, hb2⟩
  obtain ⟨hLA, hLB, hLC, hLD⟩ := least_law HLS.out hl2
  have HLA := Lib.hid hLA
  have HLB := Lib.hid hLB
  have HLC := Lib.hid hLC
  have HB3 := Lib.hid (bstep HB2.out hb2)
  have HN3 := Lib.hid (HN1.out.below hb2)
  have HM3 := Lib.hid ((NodesAt.of_ownZ ho2).both (Q := fun b => w.heap.size ≤ b) (fun _ _ _ => rfl) (fun k _ hk => Nat.le_trans HB2.out.size hk))
  obtain ⟨A2, c2, hv2⟩ := own_slice ho2
  subst hv2
  obtain ⟨nl, hnl⟩ : ∃ nl, l.length = nl := ⟨_, rfl⟩
  have HNL := Lib.hid hnl
  rw [hnl] at hLD HM3 ⊢
  clear ho2 hl2 hb2 hLA hLB hLC hnl HB2 HN1
  go_wp2_with fail
  go_loopw [25] (fun t W => ∃ i : Nat, i ≤ nl ∧ t = .int .i64 i ∧ Hid (NodesAt (fun b => w.heap.size ≤ b) W (.slice A L c) (zs ls)) ∧ Hid (NodesAt (fun b => w.heap.size ≤ b) W (.slice A2 nl c2) (zs l)) ∧ Hid (Below w.heap.size w W)) (fun t _ => nl - (intOf t).toNat)
  case atStart => exact ⟨0, Nat.zero_le _, rfl, HN3, HM3, HB3⟩
  case round =>
    clear HN3 HM3 HB3
    obtain ⟨i, hi, rfl, hN, hM, hB⟩ := hrel
    by_cases hlt : i < nl
    · obtain ⟨bq, oq, rfl, hci, hxi⟩ := listCell hM.out (show i < l.length by rw [HNL.out]; exact hlt)
      obtain ⟨hxl, hxin⟩ := HLA.out _ (List.mem_of_getElem? hxi)
      have HXI := Lib.hid hxin
      have HAP := Lib.hid (fun k y hy hne => HLB.out i k (l.getD i 0) y hxi hy hne)
      generalize l.getD i 0 = x at *
      clear hxi hxin
      obtain ⟨W4, hW4⟩ : ∃ W, W = wr := ⟨_, rfl⟩
      subst hW4
      go_wp2_with fail
      go_loop [32] (fun t => ∃ k : Nat, k ≤ nl ∧ t = .int .i64 k) (fun t => nl - (intOf t).toNat)
      case atStart => exact ⟨0, Nat.zero_le _, rfl⟩
      case round =>
        obtain ⟨k, hk, rfl⟩ := hrel
        by_cases hlt2 : k < nl
        · obtain ⟨bq', oq', e1, hck, hyk⟩ := listCell hM.out (show k < l.length by rw [HNL.out]; exact hlt2)
          cases e1
          have hyl := (HLA.out _ (List.mem_of_getElem? hyk)).1
          have HAPk := Lib.hid (HAP.out k _ hyk)
          generalize l.getD k 0 = y at *
          clear hyk
          by_cases hik : i = k
          · subst hik
            go_wp2_with fail
            go_round
            case rel => exact ⟨i + 1, hlt2, numQ i⟩
            case measure => exact measQ i nl hlt2
          · have q1 : ((i : Int) != (k : Int)) = true := by rw [bne, beqQ i k hik]; rfl
            have q2 := beqQ (x &&& y) x (HAPk.out hik)
            have q3 := i64_and_nat x y (by omega) (by omega)
            go_wp2_with fail
            go_round
            case rel => exact ⟨k + 1, hlt2, numQ k⟩
            case measure => exact measQ k nl hlt2
        · obtain rfl : k = nl := Nat.le_antisymm hk (Nat.not_lt.1 hlt2)
          go_wp2_with fail
          refine (mkin_run _ _ ls x _ (by rw [HL.out]; omega) hN.out).mono ?_
          rintro e W5 ⟨rfl, hb5⟩
          rw [decide_eq_true HXI.out]
          have HB5 := Lib.hid (bstep hB.out hb5)
          have HN5 := Lib.hid (hN.out.below hb5)
          have HM5 := Lib.hid (hM.out.below hb5)
          clear hb5 hci
          go_wp2_with fail
          go_roundw
          case rel => exact ⟨i + 1, hlt, numQ i, HN5, HM5, HB5⟩
          case measure => exact measQ i k hlt
    · obtain rfl : i = nl := Nat.le_antisymm hi (Nat.not_lt.1 hlt)
      go_wp2_with fail
      go_loopw [55] (fun t W => ∃ j : Nat, j ≤ L ∧ t = .int .i64 j ∧ Hid (NodesAt (fun b => w.heap.size ≤ b) W (.slice A L c) (zs ls)) ∧ Hid (NodesAt (fun b => w.heap.size ≤ b) W (.slice A2 i c2) (zs l)) ∧ Hid (Below w.heap.size w W)) (fun t _ => L - (intOf t).toNat)
      case atStart => exact ⟨0, Nat.zero_le _, rfl, hN, hM, hB⟩
      case round =>
        clear hN hM hB
        obtain ⟨j, hj, rfl, hN, hM, hB⟩ := hrel
        by_cases hlt3 : j < L
        · obtain ⟨bq, oq, rfl, hcx, hxj⟩ := listCell hN.out (show j < ls.length by rw [HL.out]; exact hlt3)
          have hX10 := HLS.out _ (List.mem_of_getElem? hxj)
          have HANY := Lib.hid (HLC.out _ (List.mem_of_getElem? hxj))
          generalize ls.getD j 0 = X at *
          clear hxj
          obtain ⟨W4, hW4⟩ : ∃ W, W = wr := ⟨_, rfl⟩
          subst hW4
          go_wp2_with fail
          go_loop [12, 61] (fun a t => ∃ (q : Nat) (b : Bool), q ≤ i ∧ a = .bool b ∧ t = .int .i64 q ∧ Hid ((l.take q).any (fun y => y &&& X == y) = b)) (fun _ t => i - (intOf t).toNat)
          case atStart => exact ⟨0, false, Nat.zero_le _, rfl, rfl, Lib.hid rfl⟩
          case round =>
            obtain ⟨q, b, hq, rfl, rfl, hA⟩ := hrel
            by_cases hlt4 : q < i
            · obtain ⟨bq, oq, rfl, hcy, hyq⟩ := listCell hM.out (show q < l.length by rw [HNL.out]; exact hlt4)
              have hyl := (HLA.out _ (List.mem_of_getElem? hyq)).1
              have HTK := Lib.hid (show (l.take (q + 1)).any (fun y => y &&& X == y) = (b || (l.getD q 0 &&& X == l.getD q 0)) by
                rw [List.take_add_one, hyq, List.any_append, hA.out]; simp)
              generalize l.getD q 0 = y at *
              clear hyq
              have q3 := i64_and_nat y X (by omega) (by omega)
              rcases (show b = false ∨ b = true by cases b <;> simp) with rfl | rfl
              · by_cases hyx : y &&& X = y
                · rw [hyx] at q3 HTK
                  have HT2 := Lib.hid (show (l.take (q + 1)).any (fun y => y &&& X == y) = true by rw [HTK.out]; simp)
                  clear hyx HTK
                  go_wp2_with fail
                  go_round
                  case rel => exact ⟨q + 1, true, hlt4, rfl, numQ q, HT2⟩
                  case measure => exact measQ q i hlt4
                · have q2 := beqQ (y &&& X) y hyx
                  have HT2 := Lib.hid (show (l.take (q + 1)).any (fun y => y &&& X == y) = false by rw [HTK.out]; simpa using hyx)
                  clear hyx HTK
                  go_wp2_with fail
                  go_round
                  case rel => exact ⟨q + 1, false, hlt4, rfl, numQ q, HT2⟩
                  case measure => exact measQ q i hlt4
              · have HT2 := Lib.hid (show (l.take (q + 1)).any (fun y => y &&& X == y) = true by rw [HTK.out]; simp)
                clear HTK q3
                go_wp2_with fail
                go_round
                case rel => exact ⟨q + 1, true, hlt4, rfl, numQ q, HT2⟩
                case measure => exact measQ q i hlt4
            · obtain rfl : q = i := Nat.le_antisymm hq (Nat.not_lt.1 hlt4)
              obtain rfl : b = true := by
                have h1 := hA.out
                rw [← HNL.out, List.take_length] at h1
                rw [← h1]; exact HANY.out
              clear hA
              go_wp2_with fail
              go_roundw
              case rel => exact ⟨j + 1, hlt3, numQ j, hN, hM, hB⟩
              case measure => exact measQ j L hlt3
        · obtain rfl : j = L := Nat.le_antisymm hj (Nat.not_lt.1 hlt3)
          have HBW := hB
          clear hM hN
          go_wp2_with fail
          refine (awake01 _).mono ?_
          rintro e wz ⟨rfl, hbz⟩
          have HZ := Lib.hid (bstep HBW.out hbz)
          clear hbz HBW
          go_wp2_with fail
          go_ret
          exact ⟨rfl, HZ.out⟩
end Go.Proofs.YtbbdmaakphoofaaDoor
