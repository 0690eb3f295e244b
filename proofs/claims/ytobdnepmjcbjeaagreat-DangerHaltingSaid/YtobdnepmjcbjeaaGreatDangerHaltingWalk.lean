/- The walk of DangerHalting: the least halting sets are the least sets that meet all minimal quorums, and a set halts exactly if it contains one of them. -/
import Derived.Test.YtobdnepmjcbjeaaGreatB4
import Derived.Test.YtobdnepmjcbjeaaGreatRMin
import Derived.Test.YtobdnepmjcbjeaaGreatRMeet
import Derived.Test.YtobdnepmjcbjeaaGreatHalts
namespace Go.Proofs.YtobdnepmjcbjeaaGreat
set_option linter.unusedVariables false
set_option linter.unusedSimpArgs false
open Go.RowKit

/-- Is one of the first k of a list a part of x? -/
def subL (l : List Nat) (x k : Nat) : Bool := (l.take k).any (fun y => x &&& y == y)
theorem subL_succ {l : List Nat} {x k y : Nat} (h : l[k]? = some y) : subL l x (k + 1) = (subL l x k || (x &&& y == y)) := by
  unfold subL
  rw [List.take_add_one, h]
  simp [List.any_append]
theorem least_eq {p : Nat → Bool} {a b : List Nat} (ha : IsLeast p a) (hb : IsLeast p b) : a = b := asc_ext ha.1 hb.1 (fun t => by rw [ha.2.1 t, hb.2.1 t])

set_option maxRecDepth 100000 in
set_option maxHeartbeats 4000000 in
theorem walkDangerHalting (a0 : Option Addr) (len0 cap0 : Nat) (z0 : List Int) (w : World) (w0 : IsRow .i64 w a0 len0 cap0 z0) :
    Calls Tryz.prog 3 #[.slice a0 len0 cap0] w fun e w' => e = .returned (.bool true) ∧ Below w.heap.size w w' := by
  have HR := Lib.hid w0
  clear w0
  go_enter Tryz.func3, Tryz.ntmps3
  go_wp2_with fail
  refine (TNew_run _ _ _ _ _ HR.out).mono ?_
  rintro e v0 ⟨rfl, hs0, hb0⟩
  have HS0 := Lib.hid hs0
  have HB0 := Lib.hid hb0
  have hsl := hs0.lt
  clear hs0 hb0
  go_wp2_with fail
  refine (config_run _ 8 (by omega) (by omega) _ HS0.out).mono ?_
  rintro e v2 ⟨cv, ms, rfl, hl1, hl2, hM, hok, hs2, hg2⟩
  have hM0 := id hM
  obtain ⟨A, c, hcv, _⟩ := hM0
  obtain ⟨L, hL⟩ : ∃ L, ms.length = L := ⟨_, rfl⟩
  rw [hL] at hcv
  subst hcv
  have hba := balloc (bref v2) (.cells #[.slice A L c] 27)
  have HM := Lib.hid (show CMade w v2.heap.size (.slice A L c) ms (v2.alloc (.cells #[.slice A L c] 27)) from
    ⟨hs2.alloc _, alloc_at rfl, (hM.both (Q := fun b => w.heap.size < b) (fun _ _ _ => rfl) (fun k _ hk => by omega)).below hba, hs2.lt, bstep (bgrownC HB0.out hg2 (Nat.le_refl _)) hba⟩)
  have hl10 : ms.length ≤ 10 := by omega
  have hL8 : L ≤ 8 := by omega
  have HHA := Lib.hid (fun P W (hm : MemsAt P 2 W (.slice A L c) ms) => halting_run P ms _ W hl10 hm hok)
  have HRM := Lib.hid (fun P W (hm : MemsAt P 2 W (.slice A L c) ms) => rmin_run P ms _ W hl10 hm hok)
  have HHS := Lib.hid (fun P W x hx (hm : MemsAt P 2 W (.slice A L c) ms) => halts_run P ms _ x W hl10 hx hm hok)
  have HSM := Lib.hid (fun q l x G hq h hx hG hGl => halt_some (ms := ms) (x := x) (G := G) (q := q) (l := l) hl10 hx hq h hG hGl)
  have HQL := Lib.hid (show ∀ q, IsLeast (pz (zs (allQ 2 ms))) q → ∀ t ∈ q, t < 2 ^ ms.length from fun q hq t ht => by
    have h2 := ((hq.2.1 t).1 ht).2.1
    rw [pz_iff] at h2
    unfold zs at h2
    obtain ⟨y, hy, e⟩ := List.mem_map.1 h2.2
    obtain rfl := Int.ofNat.inj e
    exact ((allQ_mem 2 ms _).1 hy).1)
  have HHO := Lib.hid (show ∀ x e, HaltOk ms x e → ∃ (b : Bool) (G : Nat), e = .returned (.tuple #[.bool b, .int .i64 0]) ∧ (b = true ↔ G = 0) ∧ IsGr 2 ms (minS (2 ^ ms.length - 1) x &&& declS ms ms.length) G ∧ G < 1024 from fun x e h => h)
  generalize HaltOk ms = HK at *
  generalize allQ 2 ms = aq at *
  rw [hL] at HHA HHS HSM HQL HHO
  have hp := pow11 L (by omega)
  have h10 : 2 ^ L ≤ 2 ^ 8 := Nat.pow_le_pow_right (by omega) hL8
  have h1p : 1 ≤ 2 ^ L := Nat.one_le_two_pow
  have HQ2 := Lib.hid (show ∀ q, IsLeast (pz (zs aq)) q → ∀ t ∈ q, t < 2 ^ L from HQL.out)
  obtain ⟨N, hN⟩ : ∃ N, 2 ^ L = N := ⟨_, rfl⟩
  rw [hN] at hp h10 h1p HHS HSM HQL HHO
  have hn0 : (0 : Int) ≤ (L : Int) := by omega
  have hn64 : ¬ (64 : Int) ≤ (L : Int) := by omega
  clear hM hok hs2 hg2 hba HS0 HB0 hl1 hl2 hL hN HR hl10
  go_upto_region 3 with fail
  generalize v2.alloc (.cells #[.slice A L c] 27) = W1 at *
  generalize v2.heap.size = g at *
  have c0 := HM.out.cell
  go_wp2_with fail
  refine (HHA.out _ _ HM.out.mems).mono ?_
  rintro e W2 ⟨vl, l, q, rfl, ho2, hq2, hl2', hb2⟩
  have hgs := HM.out.lt
  have hlow := HM.out.low
  have HM2 := Lib.hid (HM.out.bel hb2)
  have HLQ := Lib.hid hq2
  have HLL := Lib.hid hl2'
  have HT := Lib.hid (show ∀ t ∈ l, t < 1024 from fun t ht => ((hl2'.2.1 t).1 ht).1)
  have HN2 := Lib.hid ((NodesAt.of_ownZ ho2).both (Q := fun b => w.heap.size < b) (fun _ _ _ => rfl) (fun k _ hk => Nat.lt_of_lt_of_le (Nat.lt_trans hlow hgs) hk))
  obtain ⟨A2, c2, hv2⟩ := own_slice ho2
  subst hv2
  obtain ⟨nl, hnl⟩ : ∃ nl, l.length = nl := ⟨_, rfl⟩
  have HNL := Lib.hid hnl
  have hnl10 : nl ≤ 1024 := by rw [← hnl]; exact hl2'.2.2
  rw [hnl]
  rw [hnl] at HN2
  clear hnl ho2 hl2' hq2 hb2 HM HHA hgs c0
  have c0 := HM2.out.cell
  go_wp2_with fail
  refine (HRM.out _ _ HM2.out.mems).mono ?_
  rintro e W3 ⟨v3, q3, rfl, ho3, hq3, hb3⟩
  obtain rfl := least_eq hq3 HLQ.out
  have HM3 := Lib.hid (HM2.out.bel hb3)
  have HN3 := Lib.hid (HN2.out.below hb3)
  have HK3 := Lib.hid (NodesAt.of_ownZ ho3)
  obtain ⟨A3, c3, hv3⟩ := own_slice ho3
  subst hv3
  obtain ⟨nq, hnq⟩ : ∃ nq, q3.length = nq := ⟨_, rfl⟩
  have hnq10 : q3.length ≤ 1024 := hq3.2.2
  have HQ10 := Lib.hid hnq10
  rw [hnq]
  rw [hnq] at HK3
  clear hnq ho3 hb3 hq3 hnq10 HM2 HN2 HRM c0
  have c0 := HM3.out.cell
  go_wp2_with fail
  refine (rmeeting_run _ _ q3 L (by omega) (HQ2.out q3 HLQ.out) HQ10.out _ HK3.out).mono ?_
  rintro e W4 ⟨v4, l4, rfl, ho4, hl4, hb4⟩
  obtain rfl := least_eq hl4 HLL.out
  have HM4 := Lib.hid (HM3.out.bel hb4)
  have HN4 := Lib.hid (HN3.out.below hb4)
  have HK4 := Lib.hid (NodesAt.of_ownZ ho4)
  obtain ⟨A4, c4, hv4⟩ := own_slice ho4
  subst hv4
  rw [HNL.out] at HK4 ⊢
  clear ho4 hl4 hb4 HM3 HN3 HK3 c0
  have c0 := HM4.out.cell
  go_wp2_with fail
  refine (ints_run _ _ _ _ (zs l4) _ (by rw [zs_len, HNL.out]; omega) HN4.out HK4.out).mono ?_
  rintro e W5 ⟨rfl, hb5⟩
  have HM5 := Lib.hid (HM4.out.bel hb5)
  have HN5 := Lib.hid (HN4.out.below hb5)
  clear hb5 HM4 HN4 HK4 c0
  go_wp2_with fail
  go_loopw [11] (fun t W => ∃ i : Nat, i ≤ 20 ∧ t = .int .i64 i ∧ Hid (CMade w g (.slice A L c) ms W) ∧ Hid (NodesAt (fun b => w.heap.size < b) W (.slice A2 nl c2) (zs l4))) (fun t _ => 20 - (intOf t).toNat)
  case atStart => exact ⟨0, Nat.zero_le _, rfl, HM5, HN5⟩
  case round =>
    clear HM5 HN5
    obtain ⟨i, hi, rfl, hM, hNo⟩ := hrel
    by_cases hlt : i < 20
    · have c0 := hM.out.cell
      go_wp2_with fail
      refine (TN_run _ _ _ (by omega) (by omega) hM.out.tape).mono ?_
      rintro e W6 ⟨r, hr0, hr1, rfl, hs6, hg6⟩
      obtain ⟨x, rfl⟩ := Int.eq_ofNat_of_zero_le hr0
      have hx : x < N := by omega
      have HM6 := Lib.hid (hM.out.grown hs6 hg6)
      have HN6 := Lib.hid (hNo.out.both (Q := fun b => w.heap.size < b) (fun q hq hP => hg6.block q hq (by simp; omega)) (fun _ _ h => h))
      have HXS := Lib.hid (fun G => HSM.out q3 l4 x G HLQ.out HLL.out hx)
      have HS0 := Lib.hid (show subL l4 x 0 = false from rfl)
      have HSA := Lib.hid (show subL l4 x nl = l4.any (fun y => x &&& y == y) by unfold subL; rw [← HNL.out, List.take_length])
      clear hs6 hg6 c0 hM hNo hr0 hr1
      go_wp2_with fail
      go_loop [13, 64] (fun a t => ∃ k : Nat, k ≤ nl ∧ a = .bool (subL l4 x k) ∧ t = .int .i64 k) (fun _ t => nl - (intOf t).toNat)
      case atStart => exact ⟨0, Nat.zero_le _, by rw [HS0.out], rfl⟩
      case round =>
        obtain ⟨k, hk, rfl, rfl⟩ := hrel
        by_cases hlt2 : k < nl
        · obtain ⟨bq, oq, rfl, hck, hyk⟩ := listCellR HN6.out (show k < l4.length by rw [HNL.out]; exact hlt2)
          have HBS := Lib.hid (subL_succ (x := x) hyk)
          have hyl := HT.out _ (List.mem_of_getElem? hyk)
          generalize l4.getD k 0 = y at *
          generalize subL l4 x k = bk at *
          clear hyk
          have q3' := i64_and_nat x y (by omega) (by omega)
          rcases (show bk = false ∨ bk = true by cases bk <;> simp) with rfl | rfl
          · by_cases hsub : x &&& y = y
            · have HS := Lib.hid (show (x &&& y == y) = true by simp [hsub])
              rw [hsub] at q3'
              go_wp2_with fail
              go_round
              case rel => exact ⟨k + 1, hlt2, by rw [HBS.out, HS.out]; rfl, numL k⟩
              case measure => exact measL k nl hlt2
            · have HS := Lib.hid (show (x &&& y == y) = false by simp [hsub])
              have q2 : (((x &&& y : Nat) : Int) == (y : Int)) = false := by rw [eqBL, decide_eq_false hsub]
              generalize x &&& y = xy at *
              go_wp2_with fail
              go_round
              case rel => exact ⟨k + 1, hlt2, by rw [HBS.out, HS.out]; rfl, numL k⟩
              case measure => exact measL k nl hlt2
          · go_wp2_with fail
            go_round
            case rel => exact ⟨k + 1, hlt2, by rw [HBS.out]; rfl, numL k⟩
            case measure => exact measL k nl hlt2
        · obtain rfl : k = nl := Nat.le_antisymm hk (Nat.not_lt.1 hlt2)
          have c0 := HM6.out.cell
          rw [HSA.out]
          go_wp2_with fail
          refine (HHS.out _ _ x hx HM6.out.mems).mono ?_
          rintro e W7 ⟨he, hb7⟩
          obtain ⟨b, G, rfl, hb, hG, hGl⟩ := HHO.out x e he
          have hbe : b = l4.any (fun y => x &&& y == y) := by
            rw [Bool.eq_iff_iff, hb]
            exact HXS.out G hG hGl
          have HM7 := Lib.hid (HM6.out.bel hb7)
          have HN7 := Lib.hid (HN6.out.below hb7)
          rw [← hbe]
          clear hbe hb hG hGl hb7 he c0
          have hbb : (b != b) = false := by cases b <;> rfl
          go_wp2_with fail
          go_roundw
          case rel => exact ⟨i + 1, hlt, numL i, HM7, HN7⟩
          case measure => exact measL i 20 hlt
    · obtain rfl : i = 20 := Nat.le_antisymm hi (Nat.not_lt.1 hlt)
      have HBF := Lib.hid hM.out.below
      go_wp2_with fail
      refine (awake16 _).mono ?_
      rintro e W8 ⟨rfl, hbe⟩
      have HBF2 := Lib.hid (bstep HBF.out hbe)
      clear hbe
      go_wp2_with fail
      go_ret
      exact ⟨rfl, HBF2.out⟩
end Go.Proofs.YtobdnepmjcbjeaaGreat
