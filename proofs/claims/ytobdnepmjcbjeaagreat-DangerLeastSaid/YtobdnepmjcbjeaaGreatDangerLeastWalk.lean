/- The walk of DangerLeast: the sets of Splitting split, none of their proper subsets does. -/
import Derived.Test.YtobdnepmjcbjeaaGreatB4
namespace Go.Proofs.YtobdnepmjcbjeaaGreat
set_option linter.unusedVariables false
set_option linter.unusedSimpArgs false
open Go.RowKit

theorem measQ (i N : Nat) (h : i < N) : N - (intOf (Value.int .i64 ((i : Int) + 1))).toNat < N - (intOf (Value.int .i64 (i : Int))).toNat := by simp [intOf]; omega

theorem numQ (i : Nat) : Value.int .i64 ((i : Int) + 1) = Value.int .i64 ((i + 1 : Nat) : Int) := rfl

theorem beqQ (p k : Nat) (h : p ≠ k) : ((p : Int) == (k : Int)) = false := by rw [beq_eq_false_iff_ne]; omega

theorem listCell {P : Nat → Prop} {w : World} {A : Option Addr} {n c j : Nat} {l : List Nat} (h : NodesAt P w (.slice A n c) (zs l)) (hj : j < l.length) : ∃ b off, A = some ⟨b, off, none⟩ ∧ w.cell? ⟨b, off + j, none⟩ = some (.int .i64 (l.getD j 0 : Nat)) ∧ l[j]? = some (l.getD j 0) := by
  obtain ⟨A', c', e1, e2⟩ := h
  cases e1
  obtain ⟨b, off, e3, _, e5⟩ := e2 j (by rw [zs_len]; exact hj)
  rw [zs_get] at e5
  exact ⟨b, off, e3, e5, by rw [List.getD_eq_getElem?_getD, List.getElem?_eq_getElem hj]; rfl⟩

/-- Is a proper subset of x among the first k of a list? -/
def belB (l : List Nat) (x k : Nat) : Bool := (l.take k).any (fun y => y != x && x &&& y == y)

theorem belB_zero (l : List Nat) (x : Nat) : belB l x 0 = false := rfl

theorem belB_succ {l : List Nat} {x k y : Nat} (h : l[k]? = some y) : belB l x (k + 1) = (belB l x k || (y != x && x &&& y == y)) := by
  unfold belB
  rw [List.take_add_one, h]
  simp [List.any_append]

/-- The list's members are those that split with no other one below. -/
theorem least_in {ms : List Mem} (hl : ms.length ≤ 10) {l : List Nat} (h : IsLeast (pz (zs (allS ms))) l) {x : Nat} (hx : x < 2 ^ ms.length) : (Spl ms x → decide (x ∈ l) = !belB l x l.length) ∧ (¬ Spl ms x → decide (x ∈ l) = false) := by
  have h10 : 2 ^ ms.length ≤ 2 ^ 10 := Nat.pow_le_pow_right (by omega) hl
  refine ⟨fun hs => ?_, fun hs => ?_⟩
  · rw [Bool.eq_iff_iff, decide_eq_true_iff, Bool.not_eq_true']
    unfold belB
    rw [List.take_length, List.any_eq_false]
    constructor
    · intro hm y hy hc
      simp only [Bool.and_eq_true, bne_iff_ne, beq_iff_eq] at hc
      have h1 := ((h.2.1 x).1 hm).2.2 y ((h.2.1 y).1 hy).2.1 (by rw [subB_iff, Nat.and_comm]; exact hc.2)
      exact hc.1 h1
    · intro hn
      obtain ⟨y, hy1, hy2, hy3⟩ := least_below x x (Nat.le_refl _) ((pz_allS hl).2 ⟨hx, hs⟩)
      have hyl : y ∈ l := (h.2.1 y).2 ⟨pz_lt hy1, hy1, fun z hz hzy => hy3 z hz hzy⟩
      by_cases e : y = x
      · rw [← e]; exact hyl
      · exact (hn y hyl (by
          simp only [Bool.and_eq_true, bne_iff_ne, beq_iff_eq]
          exact ⟨e, by rw [Nat.and_comm]; exact subB_iff.1 hy2⟩)).elim
  · rw [decide_eq_false_iff_not]
    intro hm
    exact hs ((pz_allS hl).1 ((h.2.1 x).1 hm).2.1).2

set_option maxRecDepth 100000 in
set_option maxHeartbeats 4000000 in
theorem walkDangerLeast (a0 : Option Addr) (len0 cap0 : Nat) (z0 : List Int) (w : World) (w0 : IsRow .i64 w a0 len0 cap0 z0) :
    Calls Tryz.prog 5 #[.slice a0 len0 cap0] w fun e w' => e = .returned (.bool true) ∧ Below w.heap.size w w' := by
  have HR := Lib.hid w0
  clear w0
  go_enter Tryz.func5, Tryz.ntmps5
  go_wp2_with fail
  refine (TNew_run _ _ _ _ _ HR.out).mono ?_
  rintro e v0 ⟨rfl, hs0, hb0⟩
  have HS0 := Lib.hid hs0
  have HB0 := Lib.hid hb0
  have hsl := hs0.lt
  clear hs0 hb0
  go_wp2_with fail
  refine (config_run _ 6 (by omega) (by omega) _ HS0.out).mono ?_
  rintro e v2 ⟨cv, ms, rfl, hl1, hl2, hM, hok, hs2, hg2⟩
  have hM0 := id hM
  obtain ⟨A, c, hcv, _⟩ := hM0
  obtain ⟨L, hL⟩ : ∃ L, ms.length = L := ⟨_, rfl⟩
  rw [hL] at hcv
  subst hcv
  have hba := balloc (bref v2) (.cells #[.slice A L c] 27)
  have HM := Lib.hid (show CMade w v2.heap.size (.slice A L c) ms (v2.alloc (.cells #[.slice A L c] 27)) from
    ⟨hs2.alloc _, alloc_at rfl, (hM.both (Q := fun b => w.heap.size < b) (fun _ _ _ => rfl) (fun k _ hk => by omega)).below hba, hs2.lt, bstep (bgrownC HB0.out hg2 (Nat.le_refl _)) hba⟩)
  have hl10 : ms.length ≤ 10 := by omega
  have hL6 : L ≤ 6 := by omega
  have HOK := Lib.hid hok
  have HIN := Lib.hid (fun l (h : IsLeast (pz (zs (allS ms))) l) x hx => least_in hl10 h (x := x) hx)
  have HSP := Lib.hid (fun P W (hm : MemsAt P 2 W (.slice A L c) ms) => splitting_run P ms _ W (by omega) hm hok)
  have HSS := Lib.hid (fun P W x hx (hm : MemsAt P 2 W (.slice A L c) ms) => splits_run P ms _ x W hl10 hx hm hok)
  rw [hL] at HIN HSS
  have hp := pow11 L (by omega)
  have h10 : 2 ^ L ≤ 2 ^ 6 := Nat.pow_le_pow_right (by omega) hL6
  have h1p : 1 ≤ 2 ^ L := Nat.one_le_two_pow
  obtain ⟨N, hN⟩ : ∃ N, 2 ^ L = N := ⟨_, rfl⟩
  rw [hN] at hp h10 h1p HIN HSS
  have hn0 : (0 : Int) ≤ (L : Int) := by omega
  have hn64 : ¬ (64 : Int) ≤ (L : Int) := by omega
  have hw1 : wrap64 ((N : Int) - 1) = (N : Int) - 1 := by unfold wrap64; omega
  clear hM hok hs2 hg2 hba HS0 HB0 hl1 hl2 hL hN HR hl10
  go_upto_region 3 with fail
  generalize v2.alloc (.cells #[.slice A L c] 27) = W1 at *
  generalize v2.heap.size = g at *
  have c0 := HM.out.cell
  go_wp2_with fail
  refine (HSP.out _ _ HM.out.mems).mono ?_
  rintro e W2 ⟨vl, l, rfl, ho2, hl2', hb2⟩
  have hgs := HM.out.lt
  have hlow := HM.out.low
  have HM2 := Lib.hid (HM.out.bel hb2)
  have HXL := Lib.hid (HIN.out l hl2')
  have HT := Lib.hid (show ∀ t ∈ l, t < 1024 from fun t ht => ((hl2'.2.1 t).1 ht).1)
  have HN2 := Lib.hid ((NodesAt.of_ownZ ho2).both (Q := fun b => w.heap.size < b) (fun _ _ _ => rfl) (fun k _ hk => Nat.lt_of_lt_of_le (Nat.lt_trans hlow hgs) hk))
  obtain ⟨A2, c2, hv2⟩ := own_slice ho2
  subst hv2
  obtain ⟨nl, hnl⟩ : ∃ nl, l.length = nl := ⟨_, rfl⟩
  have HNL := Lib.hid hnl
  have hnl10 : nl ≤ 1024 := by rw [← hnl]; exact hl2'.2.2
  rw [hnl] at HXL
  rw [hnl]
  rw [hnl] at HN2
  clear hnl ho2 hl2' hb2 HM HIN HSP hgs c0
  go_wp2_with fail
  go_loopw [8] (fun t W => ∃ x : Nat, x ≤ N ∧ t = .int .i64 x ∧ Hid (CMade w g (.slice A L c) ms W) ∧ Hid (NodesAt (fun b => w.heap.size < b) W (.slice A2 nl c2) (zs l))) (fun t _ => N - (intOf t).toNat)
  case atStart => exact ⟨0, Nat.zero_le _, rfl, HM2, HN2⟩
  case round =>
    clear HM2 HN2
    obtain ⟨x, hx, rfl, hM, hNo⟩ := hrel
    by_cases hlt : x < N
    · have hle : (x : Int) ≤ (N : Int) - 1 := by omega
      have hx64 : x < 1024 := by omega
      have HXX := Lib.hid (HXL.out x hlt)
      have c0 := hM.out.cell
      go_wp2_with fail
      refine (HSS.out _ _ x hlt hM.out.mems).mono ?_
      rintro e W4 ⟨⟨b, rfl, hb⟩, hb4⟩
      have HM4 := Lib.hid (hM.out.bel hb4)
      have HN4 := Lib.hid (hNo.out.below hb4)
      have HBB := Lib.hid hb
      clear hb hb4 hM hNo c0
      go_wp2_with fail
      go_loop [11, 43] (fun a t => ∃ k : Nat, k ≤ nl ∧ a = .bool (belB l x k) ∧ t = .int .i64 k) (fun _ t => nl - (intOf t).toNat)
      case atStart => exact ⟨0, Nat.zero_le _, by rw [belB_zero], rfl⟩
      case round =>
        obtain ⟨k, hk, rfl, rfl⟩ := hrel
        by_cases hlt2 : k < nl
        · obtain ⟨bq, oq, rfl, hck, hyk⟩ := listCell HN4.out (show k < l.length by rw [HNL.out]; exact hlt2)
          have HBS := Lib.hid (belB_succ (x := x) hyk)
          have hyl := HT.out _ (List.mem_of_getElem? hyk)
          generalize l.getD k 0 = y at *
          generalize belB l x k = bk at *
          clear hyk
          have q3 := i64_and_nat x y (by omega) (by omega)
          rcases (show bk = false ∨ bk = true by cases bk <;> simp) with rfl | rfl
          · by_cases hxy : y = x
            · subst hxy
              go_wp2_with fail
              go_round
              case rel => exact ⟨k + 1, hlt2, by rw [HBS.out]; simp, numQ k⟩
              case measure => exact measQ k nl hlt2
            · have q1 : ((y : Int) != (x : Int)) = true := by rw [bne, beqQ y x hxy]; rfl
              by_cases hsub : x &&& y = y
              · have HS := Lib.hid (show (y != x && x &&& y == y) = true by simp [hxy, hsub])
                rw [hsub] at q3
                go_wp2_with fail
                go_round
                case rel => exact ⟨k + 1, hlt2, by rw [HBS.out, HS.out]; simp, numQ k⟩
                case measure => exact measQ k nl hlt2
              · have HS := Lib.hid (show (y != x && x &&& y == y) = false by simp [hsub])
                have q2 := beqQ (x &&& y) y hsub
                generalize x &&& y = xy at *
                go_wp2_with fail
                go_round
                case rel => exact ⟨k + 1, hlt2, by rw [HBS.out, HS.out]; simp, numQ k⟩
                case measure => exact measQ k nl hlt2
          · go_wp2_with fail
            go_round
            case rel => exact ⟨k + 1, hlt2, by rw [HBS.out]; simp, numQ k⟩
            case measure => exact measQ k nl hlt2
        · obtain rfl : k = nl := Nat.le_antisymm hk (Nat.not_lt.1 hlt2)
          rcases (show b = false ∨ b = true by cases b <;> simp) with rfl | rfl
          · have HI := Lib.hid (HXX.out.2 (fun h => by simpa using HBB.out.2 h))
            clear HXX HBB
            go_wp2_with fail
            refine (mkin_run _ _ l x _ (by rw [HNL.out]; omega) HN4.out).mono ?_
            rintro e W5 ⟨rfl, hb5⟩
            have HM5 := Lib.hid (HM4.out.bel hb5)
            have HN5 := Lib.hid (HN4.out.below hb5)
            rw [HI.out]
            clear hb5
            go_wp2_with fail
            go_roundw
            case rel => exact ⟨x + 1, hlt, numQ x, HM5, HN5⟩
            case measure => exact measQ x N hlt
          · have HI := Lib.hid (HXX.out.1 (HBB.out.1 rfl))
            generalize belB l x k = bk at *
            clear HXX HBB
            go_wp2_with fail
            refine (mkin_run _ _ l x _ (by rw [HNL.out]; omega) HN4.out).mono ?_
            rintro e W5 ⟨rfl, hb5⟩
            have HM5 := Lib.hid (HM4.out.bel hb5)
            have HN5 := Lib.hid (HN4.out.below hb5)
            rw [HI.out]
            have hbb : ((!bk) != (!bk)) = false := by cases bk <;> rfl
            clear hb5
            go_wp2_with fail
            go_roundw
            case rel => exact ⟨x + 1, hlt, numQ x, HM5, HN5⟩
            case measure => exact measQ x N hlt
    · obtain rfl : x = N := Nat.le_antisymm hx (Nat.not_lt.1 hlt)
      have hle : ¬ (x : Int) ≤ (x : Int) - 1 := by omega
      have HBF := Lib.hid hM.out.below
      go_wp2_with fail
      refine (awake16 _).mono ?_
      rintro e W5 ⟨rfl, hb5⟩
      have HBF2 := Lib.hid (bstep HBF.out hb5)
      clear hb5
      go_wp2_with fail
      go_ret
      exact ⟨rfl, HBF2.out⟩

end Go.Proofs.YtobdnepmjcbjeaaGreat
