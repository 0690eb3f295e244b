/- The walk of QuorumsMinimal: the minimal quorums are quorums, none is a subset of another one, and a set has a quorum exactly if one of them is a subset of it. -/
import Derived.Test.YtoaekbhbbejgmaaQMin
import Derived.Test.YtoaekbhbbejgmaaAwake10
import Derived.Test.YtoaekbhbbejgmaaRefQuor
import Derived.Test.YtoaekbhbbejgmaaRefGr
namespace Go.Proofs.Ytoaekbhbbejgmaa
set_option linter.unusedVariables false
set_option linter.unusedSimpArgs false
open Go.RowKit

theorem listCell {P : Nat → Prop} {w : World} {A : Option Addr} {n c j : Nat} {l : List Nat} (h : NodesAt P w (.slice A n c) (zs l)) (hj : j < l.length) : ∃ b off, A = some ⟨b, off, none⟩ ∧ w.cell? ⟨b, off + j, none⟩ = some (.int .i64 (l.getD j 0 : Nat)) ∧ l[j]? = some (l.getD j 0) := by
  obtain ⟨A', c', e1, e2⟩ := h
  cases e1
  obtain ⟨b, off, e3, _, e5⟩ := e2 j (by rw [zs_len]; exact hj)
  rw [zs_get] at e5
  exact ⟨b, off, e3, e5, by rw [List.getD_eq_getElem?_getD, List.getElem?_eq_getElem hj]; rfl⟩

set_option maxRecDepth 100000 in
set_option maxHeartbeats 4000000 in
theorem walkQuorumsMinimal (a0 : Option Addr) (len0 cap0 : Nat) (z0 : List Int) (w : World) (w0 : IsRow .i64 w a0 len0 cap0 z0) :
    Calls Try.prog 3 #[.slice a0 len0 cap0] w fun e w' => e = .returned (.bool true) ∧ Below w.heap.size w w' := by
  have HR := Lib.hid w0
  clear w0
  go_enter Try.func3, Try.ntmps3
  go_wp2_with fail
  refine (TNew_run _ _ _ _ _ HR.out).mono ?_
  rintro e v0 ⟨rfl, hs0, hb0⟩
  have HS0 := Lib.hid hs0
  have HB0 := Lib.hid hb0
  have hsl := hs0.lt
  clear hs0 hb0
  go_wp2_with fail
  refine (config_run _ 9 (by omega) (by omega) _ HS0.out).mono ?_
  rintro e v2 ⟨cv, ms, rfl, hl1, hl2, hM, hok, hs2, hg2⟩
  have hM0 := id hM
  obtain ⟨A, c, hcv, _⟩ := hM0
  obtain ⟨L, hL⟩ : ∃ L, ms.length = L := ⟨_, rfl⟩
  rw [hL] at hcv
  subst hcv
  have hba := balloc (bref v2) (.cells #[.slice A L c] 27)
  have HM := Lib.hid (show CMade w v2.heap.size (.slice A L c) ms (v2.alloc (.cells #[.slice A L c] 27)) from
    ⟨hs2.alloc _, alloc_at rfl, (hM.both (Q := fun b => w.heap.size < b) (fun _ _ _ => rfl) (fun k _ hk => by omega)).below hba, hs2.lt, bstep (bgrownC HB0.out hg2 (Nat.le_refl _)) hba⟩)
  have HL := Lib.hid hL
  have hl10 : ms.length ≤ 10 := by omega
  have hL9 : L ≤ 9 := by omega
  have HOK := Lib.hid hok
  have HMQ := Lib.hid (fun l hl => minQ hl10 (l := l) hl)
  have hp := pow11 L (by omega)
  have h10 : 2 ^ L ≤ 2 ^ 9 := Nat.pow_le_pow_right (by omega) hL9
  have h1p : 1 ≤ 2 ^ L := Nat.one_le_two_pow
  obtain ⟨N, hN⟩ : ∃ N, 2 ^ L = N := ⟨_, rfl⟩
  rw [hN] at hp h10 h1p
  have hn0 : (0 : Int) ≤ (L : Int) := by omega
  have hn64 : ¬ (64 : Int) ≤ (L : Int) := by omega
  clear hM hok hs2 hg2 hba HS0 HB0 hl1 hL hN HR
  go_upto_region 3 with fail
  generalize v2.alloc (.cells #[.slice A L c] 27) = W1 at *
  generalize v2.heap.size = g at *
  have c0 := HM.out.cell
  go_wp2_with fail
  refine (qmin_run _ ms _ _ hl10 HM.out.mems HOK.out).mono ?_
  rintro e W2 ⟨vl, l, rfl, ho2, hl2', hb2⟩
  have hgs := HM.out.lt
  have hlow := HM.out.low
  have HM2 := Lib.hid (HM.out.bel hb2)
  have HMin := Lib.hid (HMQ.out l hl2')
  have HN2 := Lib.hid ((NodesAt.of_ownZ ho2).both (Q := fun b => w.heap.size < b) (fun _ _ _ => rfl) (fun k _ hk => Nat.lt_of_lt_of_le (Nat.lt_trans hlow hgs) hk))
  obtain ⟨A2, c2, hv2⟩ := own_slice ho2
  subst hv2
  clear ho2 hl2' hb2 HM HMQ hgs c0
  obtain ⟨nl, hnl⟩ : ∃ nl, l.length = nl := ⟨_, rfl⟩
  have HNL := Lib.hid hnl
  have hnl10 : nl ≤ 1024 := by rw [← hnl]; exact HMin.out.len
  rw [hnl]
  rw [hnl] at HN2
  clear hnl
  go_wp2_with fail
  go_loopw [29] (fun t W => ∃ i : Nat, i ≤ nl ∧ t = .int .i64 i ∧ Hid (CMade w g (.slice A L c) ms W) ∧ Hid (NodesAt (fun b => w.heap.size < b) W (.slice A2 nl c2) (zs l))) (fun t _ => nl - (intOf t).toNat)
  case atStart => exact ⟨0, Nat.zero_le _, rfl, HM2, HN2⟩
  case round =>
    clear HM2 HN2
    obtain ⟨i, hi, rfl, hM, hN⟩ := hrel
    by_cases hlt : i < nl
    · obtain ⟨bq, oq, rfl, hci, hxi⟩ := listCell hN.out (show i < l.length by rw [HNL.out]; exact hlt)
      have hxl := HMin.out.lt _ (List.mem_of_getElem? hxi)
      have HXQ := Lib.hid (HMin.out.quo _ (List.mem_of_getElem? hxi))
      have HAP := Lib.hid (fun k y hy hne => HMin.out.apart i k (l.getD i 0) y hxi hy hne)
      generalize l.getD i 0 = x at *
      have c0 := hM.out.cell
      clear hxi
      obtain ⟨W4, hW4⟩ : ∃ W, W = wr := ⟨_, rfl⟩
      subst hW4
      go_wp2_with fail
      go_loop [36] (fun t => ∃ k : Nat, k ≤ nl ∧ t = .int .i64 k) (fun t => nl - (intOf t).toNat)
      case atStart => exact ⟨0, Nat.zero_le _, rfl⟩
      case round =>
        obtain ⟨k, hk, rfl⟩ := hrel
        by_cases hlt2 : k < nl
        · obtain ⟨bq', oq', e1, hck, hyk⟩ := listCell hN.out (show k < l.length by rw [HNL.out]; exact hlt2)
          cases e1
          have hyl := HMin.out.lt _ (List.mem_of_getElem? hyk)
          have HAPk := Lib.hid (HAP.out k _ hyk)
          generalize l.getD k 0 = y at *
          clear hyk
          by_cases hik : i = k
          · subst hik
            go_wp2_with fail
            go_round
            case rel => exact ⟨i + 1, hlt2, numQ i⟩
            case measure => exact measQ i nl hlt2
          · have q1 : ((i : Int) != (k : Int)) = true := by rw [bne, beqQ i k hik]; rfl
            have q2 := beqQ (x &&& y) x (HAPk.out hik)
            have q3 := i64_and_nat x y (by omega) (by omega)
            go_wp2_with fail
            go_round
            case rel => exact ⟨k + 1, hlt2, numQ k⟩
            case measure => exact measQ k nl hlt2
        · obtain rfl : k = nl := Nat.le_antisymm hk (Nat.not_lt.1 hlt2)
          go_wp2_with fail
          refine (rquorum_run _ 2 ms _ x _ hl10 hxl (by have := hM.out.mems; exact this)).mono ?_
          rintro e W5 ⟨b, rfl, hb, hb5⟩
          obtain rfl : b = true := hb.2 HXQ.out
          have HM5 := Lib.hid (hM.out.bel hb5)
          have HN5 := Lib.hid (hN.out.below hb5)
          clear hb hb5 c0 hci
          go_wp2_with fail
          go_roundw
          case rel => exact ⟨i + 1, hlt, numQ i, HM5, HN5⟩
          case measure => exact measQ i k hlt
    · obtain rfl : i = nl := Nat.le_antisymm hi (Nat.not_lt.1 hlt)
      go_wp2_with fail
      go_loopw [11] (fun t W => ∃ j : Nat, j ≤ 30 ∧ t = .int .i64 j ∧ Hid (CMade w g (.slice A L c) ms W) ∧ Hid (NodesAt (fun b => w.heap.size < b) W (.slice A2 i c2) (zs l))) (fun t _ => 30 - (intOf t).toNat)
      case atStart => exact ⟨0, Nat.zero_le _, rfl, hM, hN⟩
      case round =>
        clear hM hN
        obtain ⟨j, hj, rfl, hM, hN⟩ := hrel
        by_cases hlt3 : j < 30
        · have c0 := hM.out.cell
          go_wp2_with fail
          refine (TN_run _ _ _ (by omega) (by omega) hM.out.tape).mono ?_
          rintro e W4 ⟨r, hr0, hr1, rfl, hs4, hg4⟩
          obtain ⟨X, rfl⟩ := Int.eq_ofNat_of_zero_le hr0
          have HM4 := Lib.hid (hM.out.grown hs4 hg4)
          have HN4 := Lib.hid (hN.out.both (Q := fun b => w.heap.size < b) (fun q hq hP => hg4.block q hq (by simp; omega)) (fun _ _ h => h))
          have hX10 : X < 1024 := by omega
          have HME := Lib.hid (fun G hG hG1 => HMin.out.meets X G hG hG1)
          clear hs4 hg4 c0 hM hN hr0 hr1
          go_wp2_with fail
          go_loop [13, 69] (fun a t => ∃ (q : Nat) (b : Bool), q ≤ i ∧ a = .bool b ∧ t = .int .i64 q ∧ Hid ((l.take q).any (fun y => y &&& X == y) = b)) (fun _ t => i - (intOf t).toNat)
          case atStart => exact ⟨0, false, Nat.zero_le _, rfl, rfl, Lib.hid rfl⟩
          case round =>
            obtain ⟨q, b, hq, rfl, rfl, hA⟩ := hrel
            by_cases hlt4 : q < i
            · obtain ⟨bq, oq, rfl, hcy, hyq⟩ := listCell HN4.out (show q < l.length by rw [HNL.out]; exact hlt4)
              have hyl := HMin.out.lt _ (List.mem_of_getElem? hyq)
              have HTK := Lib.hid (show (l.take (q + 1)).any (fun y => y &&& X == y) = (b || (l.getD q 0 &&& X == l.getD q 0)) by
                rw [List.take_add_one, hyq, List.any_append, hA.out]; simp)
              generalize l.getD q 0 = y at *
              clear hyq
              have q3 := i64_and_nat y X (by omega) (by omega)
              rcases (show b = false ∨ b = true by cases b <;> simp) with rfl | rfl
              · by_cases hyx : y &&& X = y
                · rw [hyx] at q3 HTK
                  have HT2 := Lib.hid (show (l.take (q + 1)).any (fun y => y &&& X == y) = true by rw [HTK.out]; simp)
                  clear hyx HTK
                  go_wp2_with fail
                  go_round
                  case rel => exact ⟨q + 1, true, hlt4, rfl, numQ q, HT2⟩
                  case measure => exact measQ q i hlt4
                · have q2 := beqQ (y &&& X) y hyx
                  have HT2 := Lib.hid (show (l.take (q + 1)).any (fun y => y &&& X == y) = false by rw [HTK.out]; simpa using hyx)
                  clear hyx HTK
                  go_wp2_with fail
                  go_round
                  case rel => exact ⟨q + 1, false, hlt4, rfl, numQ q, HT2⟩
                  case measure => exact measQ q i hlt4
              · have HT2 := Lib.hid (show (l.take (q + 1)).any (fun y => y &&& X == y) = true by rw [HTK.out]; simp)
                clear HTK q3
                go_wp2_with fail
                go_round
                case rel => exact ⟨q + 1, true, hlt4, rfl, numQ q, HT2⟩
                case measure => exact measQ q i hlt4
            · obtain rfl : q = i := Nat.le_antisymm hq (Nat.not_lt.1 hlt4)
              have HAll := Lib.hid (show l.any (fun y => y &&& X == y) = b by have := hA.out; rwa [← HNL.out, List.take_length] at this)
              have c0 := HM4.out.cell
              clear hA
              go_wp2_with fail
              have hm4 := HM4.out.mems
              refine (rgreatest_run _ 2 ms _ X _ hl10 hX10 hm4).mono ?_
              rintro e W5 ⟨G, rfl, hG1, hG, hb5⟩
              have hme := HME.out G hG hG1
              rw [HAll.out] at hme
              have HM5 := Lib.hid (HM4.out.bel hb5)
              have HN5 := Lib.hid (HN4.out.below hb5)
              clear hG hb5 HM4 HN4 c0 hm4 HAll HME
              rcases (show b = false ∨ b = true by cases b <;> simp) with rfl | rfl
              · have hG0 : G = 0 := by
                  by_cases h : G = 0
                  · exact h
                  · have := hme.2 h; cases this
                subst hG0
                clear hme
                go_wp2_with fail
                go_roundw
                case rel => exact ⟨j + 1, hlt3, numQ j, HM5, HN5⟩
                case measure => exact measQ j 30 hlt3
              · have hG0 : ((G : Int) != 0) = true := by
                  have h1 := hme.1 rfl
                  have h2 := beqQ G 0 h1
                  rw [bne]
                  exact congrArg (!·) h2
                clear hme
                go_wp2_with fail
                go_roundw
                case rel => exact ⟨j + 1, hlt3, numQ j, HM5, HN5⟩
                case measure => exact measQ j 30 hlt3
        · obtain rfl : j = 30 := by omega
          have HBW := Lib.hid hM.out.below
          clear hM hN
          go_wp2_with fail
          refine (awake10 _).mono ?_
          rintro e wz ⟨rfl, hbz⟩
          have HZ := Lib.hid (bstep HBW.out hbz)
          clear hbz HBW
          go_wp2_with fail
          go_ret
          exact ⟨rfl, HZ.out⟩
end Go.Proofs.Ytoaekbhbbejgmaa
