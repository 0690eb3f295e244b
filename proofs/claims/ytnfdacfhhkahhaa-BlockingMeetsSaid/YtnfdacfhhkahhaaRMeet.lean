/- The contracts of the reference's Meeting (nodeset). -/
import Derived.Test.YtnfdacfhhkahhaaRLeast2
import Derived.Test.YtnfdacfhhkahhaaDanger2
import Derived.Test.YtnfdacfhhkahhaaB5
import Derived.Deep.Onto
import Derived.Deep.RegionHeld3
namespace Go.Proofs.Ytnfdacfhhkahhaa
set_option linter.unusedVariables false
set_option linter.unusedSimpArgs false
open Go.RowKit

/-- Do the first j of a list meet s? -/
def mtB (ls : List Nat) (s j : Nat) : Bool := (ls.take j).all (fun x => !(s &&& x == 0))

theorem mtB_succ {l : List Nat} {s j y : Nat} (h : l[j]? = some y) : mtB l s (j + 1) = (mtB l s j && !(s &&& y == 0)) := by
  unfold mtB
  rw [List.take_add_one, h, List.all_append]
  simp

def metL (ls : List Nat) (k : Nat) : List Nat := (List.range k).filter (fun s => mtB ls s ls.length)

theorem metL_succ (ls : List Nat) (k : Nat) : metL ls (k + 1) = metL ls k ++ (if mtB ls k ls.length then [k] else []) := by
  unfold metL
  rw [List.range_succ, List.filter_append]
  congr 1
  by_cases h : mtB ls k ls.length = true <;> simp [h]

theorem metL_le (ls : List Nat) (k : Nat) : (metL ls k).length ≤ k := by
  unfold metL
  exact Nat.le_trans (List.length_filter_le _ _) (by simp)

theorem metL_lt {ls : List Nat} {k t : Nat} (h : t ∈ metL ls k) : t < k := List.mem_range.1 (List.mem_filter.1 h).1

theorem metL_p {n : Nat} {ls : List Nat} (hn : n ≤ 10) : pz (zs (metL ls (2 ^ n))) = meetB n ls := by
  have h10 : 2 ^ n ≤ 2 ^ 10 := Nat.pow_le_pow_right (by omega) hn
  funext s
  rw [Bool.eq_iff_iff, pz_iff]
  unfold meetB zs
  rw [List.mem_map, Bool.and_eq_true, decide_eq_true_iff, Bool.not_eq_true', List.any_eq_false]
  have key : mtB ls s ls.length = true ↔ ∀ t ∈ ls, ¬ (s &&& t == 0) = true := by
    unfold mtB
    rw [List.take_length, List.all_eq_true]
    simp
  constructor
  · rintro ⟨_, x, hx, e⟩
    obtain rfl := Int.ofNat.inj e
    have := List.mem_filter.1 hx
    exact ⟨List.mem_range.1 this.1, key.1 this.2⟩
  · rintro ⟨h1, h2⟩
    exact ⟨by omega, s, List.mem_filter.2 ⟨List.mem_range.2 h1, key.2 h2⟩, rfl⟩

set_option maxRecDepth 100000 in
set_option maxHeartbeats 4000000 in
theorem rmeeting_run (P : Nat → Prop) (v : Value) (ls : List Nat) (m : Nat) (hm : m ≤ 10) (hls : ∀ t ∈ ls, t < 2 ^ m) (hl : ls.length ≤ 1024) (w : World) (hN : NodesAt P w v (zs ls)) :
    Calls Try.prog 11 #[v, .int .i64 (m : Int)] w fun e w' => ∃ v' l, e = .returned (.tuple #[v', .int .i64 0]) ∧ w'.ownsRow w.heap.size 3 1 v' l.length ((zs l).map (Value.int .i64)) ∧ IsLeast (meetB m ls) l ∧ Below w.heap.size w w' := by
  obtain ⟨i0, hin, hz0, hz1, hz2⟩ := info_parts infoInt
  obtain ⟨A, c, rfl⟩ : ∃ A c, v = .slice A ls.length c := by
    obtain ⟨A, c, h1, _⟩ := hN
    rw [zs_len] at h1
    exact ⟨A, c, h1⟩
  have hp := pow11 m (by omega)
  have h10 : 2 ^ m ≤ 2 ^ 10 := Nat.pow_le_pow_right (by omega) hm
  have HML := Lib.hid (metL_succ ls)
  have HMLE := Lib.hid (metL_le ls)
  have HMLT := Lib.hid (fun t (h : t ∈ metL ls (2 ^ m)) => Nat.lt_of_lt_of_le (metL_lt h) h10)
  have HMP := Lib.hid (metL_p (ls := ls) hm)
  have HM0 := Lib.hid (show metL ls 0 = [] from rfl)
  generalize metL ls = ml at *
  obtain ⟨N, hN2⟩ : ∃ N, 2 ^ m = N := ⟨_, rfl⟩
  rw [hN2] at hp h10 hls HMLT HMP
  have HLS := Lib.hid hls
  have HN := Lib.hid hN
  obtain ⟨n, hn⟩ : ∃ n, ls.length = n := ⟨_, rfl⟩
  have HNN := Lib.hid hn
  rw [hn] at HN HML hl ⊢
  have hm0 : (0 : Int) ≤ (m : Int) := by omega
  have hm64 : ¬ (64 : Int) ≤ (m : Int) := by omega
  clear hls hN hn hN2
  go_enter Try.func11, Try.ntmps11
  go_wp2_with fail
  go_loop [21] (fun t => ∃ i : Nat, i ≤ n ∧ t = .int .i64 i) (fun t => n - (intOf t).toNat)
  case atStart => exact ⟨0, Nat.zero_le _, rfl⟩
  case round =>
    obtain ⟨i, hi, rfl⟩ := hrel
    by_cases hlt : i < n
    · obtain ⟨b, off, rfl, hci, hxi⟩ := listCellR HN.out (show i < ls.length by rw [HNN.out]; exact hlt)
      have hxl := HLS.out _ (List.mem_of_getElem? hxi)
      generalize ls.getD i 0 = x at *
      clear hxi
      go_wp2_with fail
      go_round
      case rel => exact ⟨i + 1, hlt, numL i⟩
      case measure => exact measL i n hlt
    · obtain rfl : i = n := Nat.le_antisymm hi (Nat.not_lt.1 hlt)
      go_wp2_with fail
      go_loopw [8, 9] (fun v t W => ∃ (k : Nat) (vv : Value), k ≤ N ∧ v = vv ∧ t = .int .i64 k ∧ W.ownsRow w.heap.size 3 1 vv (ml k).length ((zs (ml k)).map (Value.int .i64)) ∧ Hid (Below w.heap.size w W)) (fun _ t _ => N - (intOf t).toNat)
      case atStart => exact ⟨0, .slice none 0 0, Nat.zero_le _, rfl, rfl, by rw [HM0.out]; exact World.ownsRow_nil _ _ _ _, Lib.hid (bref _)⟩
      case round =>
        obtain ⟨k, vv, hk, hv, rfl, hown, hB⟩ := hrel
        replace hv := hv.symm
        subst hv
        have hbs := hB.out.size
        have HNk := Lib.hid (HN.out.below hB.out)
        have hml := HMLE.out k
        by_cases hlt2 : k < N
        · have HS := Lib.hid (HML.out k)
          have HB0 := Lib.hid (show mtB ls k 0 = true from rfl)
          have HOWN := Lib.hid hown
          clear hown
          go_wp2_with fail
          go_loop [10, 45] (fun a t => ∃ j : Nat, j ≤ i ∧ a = .bool (mtB ls k j) ∧ t = .int .i64 j) (fun _ t => i - (intOf t).toNat)
          case atStart => exact ⟨0, Nat.zero_le _, by rw [HB0.out], rfl⟩
          case round =>
            obtain ⟨j, hj, rfl, rfl⟩ := hrel
            by_cases hlt3 : j < i
            · obtain ⟨b, off, rfl, hcj, hxj⟩ := listCellR HNk.out (show j < ls.length by rw [HNN.out]; exact hlt3)
              have hxl := HLS.out _ (List.mem_of_getElem? hxj)
              have HS2 := Lib.hid (mtB_succ (s := k) hxj)
              generalize ls.getD j 0 = x at *
              generalize mtB ls k j = bk at *
              clear hxj
              have q3 := i64_and_nat x k (by omega) (by omega)
              rw [Nat.and_comm] at q3
              rcases (show bk = false ∨ bk = true by cases bk <;> simp) with rfl | rfl
              · go_wp2_with fail
                go_round
                case rel => exact ⟨j + 1, hlt3, by rw [HS2.out]; rfl, numL j⟩
                case measure => exact measL j i hlt3
              · by_cases hz : k &&& x = 0
                · have HZ := Lib.hid (show (k &&& x == 0) = true from beq_iff_eq.2 hz)
                  rw [hz] at q3
                  go_wp2_with fail
                  go_round
                  case rel => exact ⟨j + 1, hlt3, by rw [HS2.out, HZ.out]; rfl, numL j⟩
                  case measure => exact measL j i hlt3
                · have HZ := Lib.hid (show (k &&& x == 0) = false from beq_eq_false_iff_ne.2 hz)
                  generalize k &&& x = kx at *
                  have q1 : ((kx : Int) != 0) = true := by rw [bne_iff_ne]; omega
                  go_wp2_with fail
                  go_round
                  case rel => exact ⟨j + 1, hlt3, by rw [HS2.out, HZ.out]; rfl, numL j⟩
                  case measure => exact measL j i hlt3
            · obtain rfl : j = i := Nat.le_antisymm hj (Nat.not_lt.1 hlt3)
              have hown := HOWN.out
              generalize mtB ls k j = bk at *
              rcases (show bk = false ∨ bk = true by cases bk <;> simp) with rfl | rfl
              · have HO2 := Lib.hid (show wr.ownsRow w.heap.size 3 1 vv (ml (k + 1)).length ((zs (ml (k + 1))).map (Value.int .i64)) by rw [HS.out]; simpa using hown)
                clear hown
                go_wp2_with fail
                go_roundw
                case rel => exact ⟨k + 1, _, hlt2, rfl, numL k, HO2.out, hB⟩
                case measure => exact measL k N hlt2
              · go_wp2_with (at_builtin; refine wpList_append_own _ rfl _ _ 22 rfl w.heap.size 3 i0 (.int .i64 0) 1 8 Try.underlying22 hin hz0 hz1 hz2 rfl (by decide) _ _ _ rfl (hown.alloc _) ⟨wr.heap.size, 0, none⟩ 1 1 [.int .i64 (k : Int)] rfl rfl (cell_one_new _ _ _) (fun u hu => by simp at hu; subst hu; rfl) (by unfold maxLen; omega) (by omega) (by simp; omega) ?_; intro v' w1 hown' hgrow hnil)
                have HO := Lib.hid (own_snocZ hown')
                have HB6 := Lib.hid (Below.grown (balloc hB.out (.cells #[.int .i64 (k : Int)] 3)) hgrow (by simp; omega) (fun j hj => (hown.lt j hj).1))
                have HO2 := Lib.hid (show w1.ownsRow w.heap.size 3 1 v' (ml (k + 1)).length ((zs (ml (k + 1))).map (Value.int .i64)) by rw [HS.out]; exact HO.out)
                clear hown' hgrow hnil hown
                go_roundw
                case rel => exact ⟨k + 1, _, hlt2, rfl, numL k, HO2.out, HB6⟩
                case measure => exact measL k N hlt2
        · obtain rfl : k = N := Nat.le_antisymm hk (Nat.not_lt.1 hlt2)
          have HNL := Lib.hid (NodesAt.of_ownZ hown)
          obtain ⟨Ar, cr, hvr⟩ := own_slice hown
          subst hvr
          clear hown
          go_wp2_with fail
          refine (rleast_run _ _ (ml k) _ (by omega) HMLT.out HNL.out).mono ?_
          rintro e W7 ⟨v7, l7, rfl, ho7, hl7, hb7⟩
          rw [HMP.out] at hl7
          have HF := Lib.hid (show W7.ownsRow w.heap.size 3 1 v7 l7.length ((zs l7).map (Value.int .i64)) ∧ IsLeast (meetB m ls) l7 ∧ Below w.heap.size w W7 from
            ⟨ho7.mono hB.out.size, hl7, bstep hB.out hb7⟩)
          obtain ⟨A3, c3, hv3⟩ := own_slice ho7
          subst hv3
          clear ho7 hl7 hb7
          go_wp2_with fail
          go_ret2
          exact ⟨_, l7, rfl, HF.out⟩

end Go.Proofs.Ytnfdacfhhkahhaa
