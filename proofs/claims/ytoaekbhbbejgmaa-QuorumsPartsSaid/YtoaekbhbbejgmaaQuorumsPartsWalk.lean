/- The walk of QuorumsParts: the parts divide the declared members, and each minimal quorum lies in one of them. -/
import Derived.Test.YtoaekbhbbejgmaaPartsMath
import Derived.Test.YtoaekbhbbejgmaaAwake10
import Derived.Test.YtoaekbhbbejgmaaRefSat
namespace Go.Proofs.Ytoaekbhbbejgmaa
set_option linter.unusedVariables false
set_option linter.unusedSimpArgs false
open Go.RowKit

theorem listCellP {P : Nat → Prop} {w : World} {A : Option Addr} {n c j : Nat} {l : List Nat} (h : NodesAt P w (.slice A n c) (zs l)) (hj : j < l.length) : ∃ b off, A = some ⟨b, off, none⟩ ∧ w.cell? ⟨b, off + j, none⟩ = some (.int .i64 (l.getD j 0 : Nat)) ∧ l[j]? = some (l.getD j 0) := by
  obtain ⟨A', c', e1, e2⟩ := h
  cases e1
  obtain ⟨b, off, e3, _, e5⟩ := e2 j (by rw [zs_len]; exact hj)
  rw [zs_get] at e5
  exact ⟨b, off, e3, e5, by rw [List.getD_eq_getElem?_getD, List.getElem?_eq_getElem hj]; rfl⟩

theorem measP (i N : Nat) (h : i < N) : N - (intOf (Value.int .i64 ((i : Int) + 1))).toNat < N - (intOf (Value.int .i64 (i : Int))).toNat := by simp [intOf]; omega
theorem numP (i : Nat) : Value.int .i64 ((i : Int) + 1) = Value.int .i64 ((i + 1 : Nat) : Int) := rfl
theorem beqP (p k : Nat) (h : p ≠ k) : ((p : Int) == (k : Int)) = false := by rw [beq_eq_false_iff_ne]; omega

set_option maxRecDepth 100000 in
set_option maxHeartbeats 4000000 in
theorem walkQuorumsParts (a0 : Option Addr) (len0 cap0 : Nat) (z0 : List Int) (w : World) (w0 : IsRow .i64 w a0 len0 cap0 z0) :
    Calls Try.prog 4 #[.slice a0 len0 cap0] w fun e w' => e = .returned (.bool true) ∧ Below w.heap.size w w' := by
  have HR := Lib.hid w0
  clear w0
  go_enter Try.func4, Try.ntmps4
  go_wp2_with fail
  refine (TNew_run _ _ _ _ _ HR.out).mono ?_
  rintro e v0 ⟨rfl, hs0, hb0⟩
  have HS0 := Lib.hid hs0
  have HB0 := Lib.hid hb0
  have hsl := hs0.lt
  clear hs0 hb0
  go_wp2_with fail
  refine (config_run _ 9 (by omega) (by omega) _ HS0.out).mono ?_
  rintro e v2 ⟨cv, ms, rfl, hl1, hl2, hM, hok, hs2, hg2⟩
  have hM0 := id hM
  obtain ⟨A, c, hcv, _⟩ := hM0
  obtain ⟨L, hL⟩ : ∃ L, ms.length = L := ⟨_, rfl⟩
  rw [hL] at hcv
  subst hcv
  have hba := balloc (bref v2) (.cells #[.slice A L c] 27)
  have HM := Lib.hid (show CMade w v2.heap.size (.slice A L c) ms (v2.alloc (.cells #[.slice A L c] 27)) from
    ⟨hs2.alloc _, alloc_at rfl, (hM.both (Q := fun b => w.heap.size < b) (fun _ _ _ => rfl) (fun k _ hk => by omega)).below hba, hs2.lt, bstep (bgrownC HB0.out hg2 (Nat.le_refl _)) hba⟩)
  have HL := Lib.hid hL
  have hl10 : ms.length ≤ 10 := by omega
  have hL9 : L ≤ 9 := by omega
  have HOK := Lib.hid hok
  have HPF := Lib.hid (parts_final (ms := ms) hl10)
  have HMP := Lib.hid (fun l hl Q hQ => minQ_part (ms := ms) hl10 hok (reachS_good ms hl10) (l := l) hl (parts_final hl10).1 (fun k hk => by rw [(parts_final hl10).2]; exact hk) (Q := Q) hQ)
  have HPL := Lib.hid (partsS_ok (reachS ms) (nodL (declS ms ms.length) 10) (nodL_nod _))
  have HPN := Lib.hid (nodL_len (declS ms ms.length) 10)
  have HPR := Lib.hid (fun P v W (h : MemsAt P 2 W v ms) => parts_run P ms v W hl10 h hok)
  have hdl := declS_lt ms ms.length hl10
  clear hM hs2 hg2 hba HS0 HB0 hl1 hL HR hok
  go_upto_region 3 with fail
  generalize v2.alloc (.cells #[.slice A L c] 27) = W1 at *
  generalize v2.heap.size = g at *
  have c0 := HM.out.cell
  go_wp2_with fail
  refine (HPR.out _ _ _ HM.out.mems).mono ?_
  rintro e W2 ⟨vp, rfl, hp2, hb2⟩
  have HM2 := Lib.hid (HM.out.bel hb2)
  obtain ⟨st, hst⟩ : ∃ st, partsS (reachS ms) (nodL (declS ms ms.length) 10) = st := ⟨_, rfl⟩
  rw [hst] at hp2 HPF HMP HPL
  obtain ⟨ps, pl⟩ := st
  have HNP := Lib.hid (NodesAt.of_ownZ hp2)
  obtain ⟨A2, c2, hv2⟩ := own_slice hp2
  subst hv2
  have hpn : ps.length ≤ 10 := Nat.le_trans HPL.out.2.1 HPN.out
  obtain ⟨np, hnp⟩ : ∃ np, ps.length = np := ⟨_, rfl⟩
  have HNPL := Lib.hid hnp
  rw [show (ps, pl).1.length = np from hnp] at HNP ⊢
  rw [hnp] at hpn
  have hq0 := HM2.out.cell
  clear hp2 hb2 hst HPR HM hnp HPN
  go_wp2_with fail
  refine (qmin_run _ ms _ _ hl10 HM2.out.mems HOK.out).mono ?_
  rintro e W3 ⟨vl, l, rfl, ho3, hl3, hb3⟩
  have HM3 := Lib.hid (HM2.out.bel hb3)
  have HNP3 := Lib.hid (HNP.out.below hb3)
  have HNL := Lib.hid (NodesAt.of_ownZ ho3)
  have HMP2 := Lib.hid (fun Q hQ => HMP.out l hl3 Q hQ)
  have HLT := Lib.hid (fun t (ht : t ∈ l) => ((hl3.2.1 t).1 ht).1)
  have hll := hl3.2.2
  obtain ⟨A3, c3, hv3⟩ := own_slice ho3
  subst hv3
  obtain ⟨nl, hnl⟩ : ∃ nl, l.length = nl := ⟨_, rfl⟩
  have HNLL := Lib.hid hnl
  rw [hnl] at HNL hll ⊢
  clear ho3 hl3 hb3 hq0 HMP HM2 HNP hnl
  go_wp2_with fail
  go_loop [9, 39] (fun a t => ∃ (i q : Nat), i ≤ np ∧ a = .int .i64 (q : Int) ∧ t = .int .i64 i ∧ Hid ((ps.take i).foldl (· ||| ·) 0 = q)) (fun _ t => np - (intOf t).toNat)
  case atStart => exact ⟨0, 0, Nat.zero_le _, rfl, rfl, Lib.hid rfl⟩
  case round =>
    obtain ⟨i, q, hi, rfl, rfl, hA⟩ := hrel
    by_cases hlt : i < np
    · obtain ⟨b1, o1, rfl, hcy, hyi⟩ := listCellP HNP3.out (show i < ps.length by rw [HNPL.out]; exact hlt)
      obtain ⟨hy0, hya⟩ := HPF.out.1.apart i _ hyi
      have hyl := HPL.out.2.2 _ (List.mem_of_getElem? hyi)
      have HTK := Lib.hid (show (ps.take (i + 1)).foldl (· ||| ·) 0 = q ||| ps.getD i 0 by
        rw [List.take_add_one, hyi, List.foldl_append, hA.out]; rfl)
      have hya2 : q &&& ps.getD i 0 = 0 := by rw [← hA.out]; exact hya
      have hql : q < 1024 := by
        rw [← hA.out]
        exact foldOr_lt _ _ (by omega) (fun x hx => HPL.out.2.2 x (List.mem_of_mem_take hx))
      generalize ps.getD i 0 = y at *
      have q1 : ((y : Int) == 0) = false := beqP y 0 hy0
      have q3 : bits .and .i64 (q : Int) (y : Int) = 0 := by rw [i64_and_nat q y (by omega) (by omega), hya2]; rfl
      have q4 := i64_or10 q y hql hyl
      clear hyi hya hya2 hy0 hA
      go_wp2_with fail
      go_round
      case rel => exact ⟨i + 1, q ||| y, hlt, rfl, numP i, HTK⟩
      case measure => exact measP i np hlt
    · obtain rfl : i = np := Nat.le_antisymm hi (Nat.not_lt.1 hlt)
      have HQ := Lib.hid (show q = declS ms ms.length by
        have h1 := hA.out
        rw [← HNPL.out, List.take_length] at h1
        rw [← h1, HPF.out.1.all]; exact HPF.out.2)
      clear hA HPF
      go_wp2_with fail
      go_loop [57] (fun t => ∃ j : Nat, j ≤ nl ∧ t = .int .i64 j) (fun t => nl - (intOf t).toNat)
      case atStart => exact ⟨0, Nat.zero_le _, rfl⟩
      case round =>
        obtain ⟨j, hj, rfl⟩ := hrel
        by_cases hltj : j < nl
        · obtain ⟨b2, o2, rfl, hcx, hxj⟩ := listCellP HNL.out (show j < l.length by rw [HNLL.out]; exact hltj)
          have hxl := HLT.out _ (List.mem_of_getElem? hxj)
          have HX := Lib.hid (HMP2.out _ (List.mem_of_getElem? hxj))
          generalize l.getD j 0 = x at *
          clear hxj
          go_wp2_with fail
          go_loop [14, 63] (fun a t => ∃ (p : Nat) (b : Bool), p ≤ i ∧ a = .bool b ∧ t = .int .i64 p ∧ Hid ((ps.take p).any (fun y => x &&& y == x) = b)) (fun _ t => i - (intOf t).toNat)
          case atStart => exact ⟨0, false, Nat.zero_le _, rfl, rfl, Lib.hid rfl⟩
          case round =>
            obtain ⟨p, b, hp, rfl, rfl, hA⟩ := hrel
            by_cases hltp : p < i
            · obtain ⟨b1, o1, rfl, hcy, hyp⟩ := listCellP HNP3.out (show p < ps.length by rw [HNPL.out]; exact hltp)
              have hyl := HPL.out.2.2 _ (List.mem_of_getElem? hyp)
              have HTK := Lib.hid (show (ps.take (p + 1)).any (fun y => x &&& y == x) = (b || (x &&& ps.getD p 0 == x)) by
                rw [List.take_add_one, hyp, List.any_append, hA.out]; simp)
              generalize ps.getD p 0 = y at *
              clear hyp
              have q3 := i64_and_nat x y (by omega) (by omega)
              rcases (show b = false ∨ b = true by cases b <;> simp) with rfl | rfl
              · by_cases hyx : x &&& y = x
                · rw [hyx] at q3 HTK
                  have HT2 := Lib.hid (show (ps.take (p + 1)).any (fun y => x &&& y == x) = true by rw [HTK.out]; simp)
                  clear hyx HTK
                  go_wp2_with fail
                  go_round
                  case rel => exact ⟨p + 1, true, hltp, rfl, numP p, HT2⟩
                  case measure => exact measP p i hltp
                · have q2 := beqP (x &&& y) x hyx
                  have HT2 := Lib.hid (show (ps.take (p + 1)).any (fun y => x &&& y == x) = false by rw [HTK.out]; simpa using hyx)
                  clear hyx HTK
                  go_wp2_with fail
                  go_round
                  case rel => exact ⟨p + 1, false, hltp, rfl, numP p, HT2⟩
                  case measure => exact measP p i hltp
              · have HT2 := Lib.hid (show (ps.take (p + 1)).any (fun y => x &&& y == x) = true by rw [HTK.out]; simp)
                clear HTK q3
                go_wp2_with fail
                go_round
                case rel => exact ⟨p + 1, true, hltp, rfl, numP p, HT2⟩
                case measure => exact measP p i hltp
            · obtain rfl : p = i := Nat.le_antisymm hp (Nat.not_lt.1 hltp)
              have hbt : b = true := by
                have h1 := hA.out
                rw [← HNPL.out, List.take_length] at h1
                rw [← h1, List.any_eq_true]
                obtain ⟨y, hy, hxy⟩ := HX.out
                exact ⟨y, hy, by simpa using hxy⟩
              subst hbt
              clear hA
              go_wp2_with fail
              go_round
              case rel => exact ⟨j + 1, hltj, numP j⟩
              case measure => exact measP j nl hltj
        · obtain rfl : j = nl := Nat.le_antisymm hj (Nat.not_lt.1 hltj)
          have c0 := HM3.out.cell
          have hm3 := HM3.out.mems
          go_wp2_with fail
          refine (rdeclared_run _ 2 ms _ _ hl10 hm3).mono ?_
          rintro e W4 ⟨rfl, hb4⟩
          have HB4 := Lib.hid (HM3.out.bel hb4).below
          rw [← HQ.out]
          clear hb4 c0 hm3 HM3 HQ
          go_wp2_with fail
          refine (awake10 _).mono ?_
          rintro e wz ⟨rfl, hbz⟩
          have HZ := Lib.hid (bstep HB4.out hbz)
          clear hbz HB4
          go_wp2_with fail
          go_ret
          exact ⟨rfl, HZ.out⟩
end Go.Proofs.Ytoaekbhbbejgmaa
