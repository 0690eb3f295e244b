/- Contracts of the reference's dispensable sets: All. -/
import Derived.Test.YtacpfcckilnbfaaGreatDisp5
namespace Go.Proofs.YtacpfcckilnbfaaGreat
set_option linter.unusedVariables false
set_option linter.unusedSimpArgs false
open Go.RowKit

def AllOfI (s : Nat) (ls hs : List Mem) (l : List Int) (k : Nat) (L : List Nat) : Prop := L.length ≤ k ∧ ∀ b : Nat, b ∈ L ↔ (b : Int) ∈ l.take k ∧ GoodB s ls hs b
theorem AllOfI.zero (s : Nat) (ls hs : List Mem) (l : List Int) : AllOfI s ls hs l 0 [] := ⟨by simp, fun b => by simp⟩
theorem AllOfI.skip {s : Nat} {ls hs : List Mem} {l : List Int} {L : List Nat} {k b : Nat} (h : AllOfI s ls hs l k L) (hb : l[k]? = some (b : Int)) (hn : ¬ GoodB s ls hs b) : AllOfI s ls hs l (k + 1) L := by
  unfold AllOfI
  rw [List.take_add_one, hb]
  refine ⟨Nat.le_succ_of_le h.1, fun x => ?_⟩
  rw [h.2 x, List.mem_append]
  constructor
  · rintro ⟨h1, h2⟩; exact ⟨.inl h1, h2⟩
  · rintro ⟨h1 | h1, h2⟩
    · exact ⟨h1, h2⟩
    · have : (x : Int) = (b : Int) := by simpa using h1
      rw [Int.ofNat.inj this] at h2; exact absurd h2 hn
theorem AllOfI.add {s : Nat} {ls hs : List Mem} {l : List Int} {L : List Nat} {k b : Nat} (h : AllOfI s ls hs l k L) (hb : l[k]? = some (b : Int)) (hn : GoodB s ls hs b) : AllOfI s ls hs l (k + 1) (L ++ [b]) := by
  unfold AllOfI
  rw [List.take_add_one, hb]
  refine ⟨by simp; exact h.1, fun x => ?_⟩
  rw [List.mem_append, h.2 x, List.mem_append]
  constructor
  · rintro (⟨h1, h2⟩ | h1)
    · exact ⟨.inl h1, h2⟩
    · have : x = b := by simpa using h1
      rw [this]; exact ⟨.inr (by simp), hn⟩
  · rintro ⟨h1 | h1, h2⟩
    · exact .inl ⟨h1, h2⟩
    · have : (x : Int) = (b : Int) := by simpa using h1
      rw [Int.ofNat.inj this]; exact .inr (by simp)
def RAllIs (s : Nat) (ls hs : List Mem) (L : List Nat) : Prop := L.length ≤ 20000 ∧ ∀ b, b ∈ L ↔ b < 2 ^ ls.length ∧ GoodB s ls hs b
theorem ones_sub {n b : Nat} : Sub b (2 ^ n - 1) ↔ b < 2 ^ n := by
  constructor
  · intro h
    refine Nat.lt_pow_two_of_testBit _ (fun k hk => ?_)
    cases hb : b.testBit k
    · rfl
    · have h5 := h k hb
      rw [Nat.testBit_two_pow_sub_one, decide_eq_true_iff] at h5
      omega
  · intro h k hk
    rw [Nat.testBit_two_pow_sub_one, decide_eq_true (lt_bit h hk)]

set_option maxRecDepth 100000 in
set_option maxHeartbeats 4000000 in
theorem rdall_run (P Q : Nat → Prop) (ls hs : List Mem) (vl vh : Value) (s : Nat) (hsx : s < 2 ^ ls.length) (w : World) (hl : ls.length ≤ 7) (h1 : MemsAt P 3 w vl ls) (h2 : MemsAt Q 3 w vh hs) (hp : PairM ls hs) :
    Calls Tryz.prog 31 #[.agg #[vl], .agg #[vh], .int .i64 (s : Int)] w fun e w' => (∃ (v : Value) (L : List Nat), e = .returned (.tuple #[v, .int .i64 0]) ∧ NodesAt (fun b => w.heap.size ≤ b) w' v (zs L) ∧ RAllIs s ls hs L) ∧ Below w.heap.size w w' := by
  have HS := Lib.hid hsx
  clear hsx
  obtain ⟨A, c, rfl⟩ := h1.slice
  obtain ⟨B, d, rfl⟩ := h2.slice
  have hlen := hp.len
  have hokl := hp.okl
  have hokh := hp.okh
  have hdec := hp.decl
  have HDL := Lib.hid (fun W (h : MemsAt P 3 W (.slice A ls.length c) ls) => declared_run P 3 ls _ W (by omega) h)
  have HDH := Lib.hid (fun W (h : MemsAt Q 3 W (.slice B hs.length d) hs) => declared_run Q 3 hs _ W (by omega) h)
  rw [hdec] at HDH
  rw [hlen] at h2 HDH hokh ⊢
  obtain ⟨n, hn⟩ : ∃ n, ls.length = n := ⟨_, rfl⟩
  have HN := Lib.hid hn
  have HNH := Lib.hid hlen
  rw [hn] at HNH
  have HD := Lib.hid (fun k (h : (declS ls ls.length).testBit k = true) => declS_bit h)
  have HDM := Lib.hid (fun k (h : (declS ls ls.length).testBit k = true) => declS_memD h)
  have hDl : declS ls ls.length < 1024 := declS_lt ls _ (by omega)
  generalize declS ls ls.length = D at HDL HDH hDl HD HDM
  rw [hn] at h1 h2 HDL HDH hokl hokh hl HD ⊢
  have HP := Lib.hid hp
  have HOL := Lib.hid hokl
  have HOH := Lib.hid hokh
  have HPA := Lib.hid (PA.new h1 h2)
  clear h1 h2 hp hokl hokh hn hdec hlen
  go_enter Tryz.func31, Tryz.ntmps31
  go_upto_region 1 with fail
  generalize ((w.alloc (.cells #[.slice A n c] 27)).alloc (.cells #[.slice B n d] 27)) = W1 at *
  generalize w.heap.size = g at HPA ⊢
  have l0 := HPA.out.cs.1
  have h0 := HPA.out.cs.2.1
  go_wp2_with fail
  refine (rdbegin_run P Q ls hs _ _ s HS.out _ (by rw [HN.out]; exact hl) HPA.out.ml HPA.out.mh HP.out).mono ?_
  rintro e W1x ⟨rfl, hbx⟩
  have HPA1 := Lib.hid (HPA.out.to hbx)
  clear hbx l0 h0
  have l1 := HPA1.out.cs.1
  have h1 := HPA1.out.cs.2.1
  go_wp2_with fail
  refine (rdmembers_run A n c (by omega) _).mono ?_
  rintro e W2x ⟨rfl, hbx⟩
  have HPA2 := Lib.hid (HPA1.out.to hbx)
  clear hbx l1 h1
  have l2 := HPA2.out.cs.1
  have h2 := HPA2.out.cs.2.1
  have hp10 : 2 ^ n ≤ 2 ^ 10 := Nat.pow_le_pow_right (by omega) (by omega)
  have HPM := Lib.hid (fun W => rsubsets_run (2 ^ n - 1) W (by omega))
  have HSN := Lib.hid (show s < 2 ^ n by have h := HS.out; rw [HN.out] at h; exact h)
  have hs10 : s < 1024 := by have := HSN.out; omega
  obtain ⟨M, hM⟩ : ∃ M, 2 ^ n - 1 = M := ⟨_, rfl⟩
  have HM := Lib.hid hM
  rw [hM] at HPM ⊢
  clear hM hp10
  go_wp2_with fail
  refine (HPM.out _).mono ?_
  rintro e W6 ⟨vr, l, rfl, hnv, hlen, hmem, hb6⟩
  have HPA6 := Lib.hid (HPA2.out.to hb6)
  have HMB := Lib.hid (show ∀ b : Nat, (b : Int) ∈ l ↔ b < 2 ^ n from fun b => by
    rw [hmem, ← ones_sub, HM.out]
    constructor
    · rintro ⟨q, e, h⟩
      obtain rfl := Int.ofNat.inj e
      exact h
    · intro h; exact ⟨b, rfl, h⟩)
  have HFB := Lib.hid (show ∀ i, i < l.length → ∃ b : Nat, l[i]? = some (b : Int) ∧ b < 2 ^ n from fun i hi => by
    have e := List.getElem?_eq_getElem hi
    obtain ⟨q, h1, h2⟩ := (hmem _).1 (List.mem_of_getElem? e)
    refine ⟨q, by rw [e, h1], ones_sub.1 (by rw [HM.out]; exact h2)⟩)
  have HF := Lib.hid (show ∀ L, AllOfI s ls hs l l.length L → RAllIs s ls hs L from fun L h => ⟨Nat.le_trans h.1 hlen, fun b => by
    rw [h.2 b, List.take_length, HMB.out b, HN.out]⟩)
  obtain ⟨Nn, cn, rfl⟩ := hnv.slice
  obtain ⟨m, hm⟩ : ∃ m, l.length = m := ⟨_, rfl⟩
  rw [hm] at hnv hlen HF ⊢
  have HNV := Lib.hid hnv
  have HML := Lib.hid hm
  obtain ⟨i0, hin, hz0, hz1, hz2⟩ := info_parts infoInt
  clear hb6 hnv hm hmem l2 h2 HPA2 HPA1 HPA HPM
  go_wp2_with fail
  go_loopw [9, 23] (fun u t W => ∃ (k : Nat) (v : Value) (L : List Nat), k ≤ m ∧ u = v ∧ t = .int .i64 (k : Int) ∧ W.ownsRow W6.heap.size 3 1 v L.length ((zs L).map (Value.int .i64)) ∧ Hid (AllOfI s ls hs l k L) ∧ Hid (Below W6.heap.size W6 W)) (fun _ t _ => m - (intOf t).toNat)
  case atStart => exact ⟨0, _, [], Nat.zero_le _, rfl, rfl, World.ownsRow_nil _ _ _ _, Lib.hid (AllOfI.zero _ _ _ _), Lib.hid (bref _)⟩
  case round =>
    obtain ⟨k, v, L, hk, hv, rfl, hown, hAll, hBe⟩ := hrel
    subst hv
    have hszb := hBe.out.size
    have hLl : L.length ≤ k := by exact hAll.out.1
    by_cases hlt : k < m
    · obtain ⟨An, cn', hAn, hcl⟩ := HNV.out
      injection hAn with q1 q2 q3
      subst q1
      obtain ⟨bn, on, hbn, _, hcn⟩ := hcl k (by rw [HML.out]; exact hlt)
      subst hbn
      obtain ⟨b, hb, hb2⟩ := HFB.out k (by rw [HML.out]; exact hlt)
      rw [show l.getD k 0 = (b : Int) by rw [List.getD_eq_getElem?_getD, hb]; rfl] at hcn
      have hp10 : 2 ^ n ≤ 2 ^ 10 := Nat.pow_le_pow_right (by omega) (by omega)
      have hb10 : b < 1024 := by omega
      have HB2 := Lib.hid (show b < 2 ^ ls.length by rw [HN.out]; exact hb2)
      clear hb2 hp10
      have n0 : wr.cell? ⟨bn, on + k, none⟩ = some (.int .i64 (b : Int)) := (hBe.out.cell (cell_lt hcn)).trans hcn
      have hpa := HPA6.out.to hBe.out
      have l0 := hpa.cs.1
      have h0 := hpa.cs.2.1
      have HPAR := Lib.hid hpa
      have hand := i64_and_nat b s (by omega) (by omega)
      have HZ := Lib.hid (show b &&& s = s ↔ Sub s b from by rw [Nat.and_comm]; exact and_self_sub)
      generalize b &&& s = z at hand HZ
      have HB := Lib.hid hb
      have HOWN := Lib.hid hown
      clear hcl hcn hpa q2 q3 hb
      by_cases hz : z = s
      · have HSU := Lib.hid (HZ.out.1 hz)
        subst hz
        go_wp2_with fail
        refine (rdis_run P Q ls hs _ _ b HB2.out _ (by rw [HN.out]; exact hl) HPAR.out.ml HPAR.out.mh HP.out).mono ?_
        rintro e W7 ⟨⟨x, rfl, hx⟩, hb7⟩
        have HX := Lib.hid hx
        have HB7 := Lib.hid (bstep hBe.out hb7)
        have hown7 := own_keepG HOWN.out (fun j _ _ hl => hb7.block j hl)
        have HOWN7 := Lib.hid hown7
        have hsz7 := HB7.out.size
        clear hx n0 l0 h0 hown
        cases x
        · have HA := Lib.hid (hAll.out.skip HB.out (fun h => by have := HX.out.2 h.2; cases this))
          clear hb7 hown7
          go_wp2_with fail
          go_roundw
          case rel => exact ⟨k + 1, _, L, by omega, rfl, by go_num, HOWN7.out, HA, HB7⟩
          case measure => simp [intOf]; omega
        · have HA := Lib.hid (hAll.out.add HB.out ⟨HSU.out, HX.out.1 (by first | rfl | trivial)⟩)
          clear hb7
          go_wp2_with (at_builtin; refine wpList_append_own _ rfl _ _ 22 rfl W6.heap.size 3 i0 (.int .i64 0) 1 8 Tryz.underlying22 hin hz0 hz1 hz2 rfl (by decide) _ _ _ rfl (hown7.alloc _) ⟨W7.heap.size, 0, none⟩ 1 1 [.int .i64 (b : Int)] rfl rfl (cell_one_new _ _ _) (fun u hu => by simp at hu; subst hu; rfl) (by unfold maxLen; omega) (by omega) (by simp; omega) ?_; intro v' w1 hown' hgrow hnil)
          have HO := Lib.hid (own_snoc hown')
          have HB4 := Lib.hid (Below.grown (balloc HB7.out (.cells #[.int .i64 (b : Int)] 3)) hgrow (by simp; omega) (fun j hj => (hown7.lt j hj).1))
          clear hown' hgrow hnil hown7
          go_roundw
          case rel => exact ⟨k + 1, _, L ++ [b], by omega, rfl, by go_num, by simpa [zs] using HO.out, HA, HB4⟩
          case measure => simp [intOf]; omega
      · have hzi : ¬ ((z : Nat) : Int) = (s : Int) := by omega
        have HA := Lib.hid (hAll.out.skip HB.out (fun h => hz (HZ.out.2 h.1)))
        clear hown
        go_wp2_with fail
        go_roundw
        case rel => exact ⟨k + 1, _, L, by omega, rfl, by go_num, HOWN.out, HA, hBe⟩
        case measure => simp [intOf]; omega
    · obtain rfl : k = m := by omega
      have HBF := Lib.hid (HPA6.out.to hBe.out).bel
      have HAL := Lib.hid (HF.out L hAll.out)
      have hge : w.heap.size ≤ W6.heap.size := HPA6.out.bel.size
      have HNF := Lib.hid ((NodesAt.of_ownZ hown).both (w' := wr) (Q := fun b => w.heap.size ≤ b) (fun _ _ _ => rfl) (fun q _ hq => by have : W6.heap.size ≤ q := hq; show w.heap.size ≤ q; omega))
      clear hown
      go_wp2_with fail
      go_ret2
      exact ⟨⟨_, L, rfl, HNF.out, HAL.out⟩, HBF.out⟩
end Go.Proofs.YtacpfcckilnbfaaGreat
