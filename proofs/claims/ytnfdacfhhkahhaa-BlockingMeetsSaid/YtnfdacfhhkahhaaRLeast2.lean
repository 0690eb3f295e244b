/- The walk of the reference's Least. -/
import Derived.Test.YtnfdacfhhkahhaaRLeast
import Derived.Test.YtnfdacfhhkahhaaB5
namespace Go.Proofs.Ytnfdacfhhkahhaa
set_option linter.unusedVariables false
set_option linter.unusedSimpArgs false
open Go.RowKit

theorem listCellR {P : Nat → Prop} {w : World} {A : Option Addr} {n c j : Nat} {l : List Nat} (h : NodesAt P w (.slice A n c) (zs l)) (hj : j < l.length) : ∃ b off, A = some ⟨b, off, none⟩ ∧ w.cell? ⟨b, off + j, none⟩ = some (.int .i64 (l.getD j 0 : Nat)) ∧ l[j]? = some (l.getD j 0) := by
  obtain ⟨A', c', e1, e2⟩ := h
  cases e1
  obtain ⟨b, off, e3, _, e5⟩ := e2 j (by rw [zs_len]; exact hj)
  rw [zs_get] at e5
  exact ⟨b, off, e3, e5, by rw [List.getD_eq_getElem?_getD, List.getElem?_eq_getElem hj]; rfl⟩

theorem measL (i N : Nat) (h : i < N) : N - (intOf (Value.int .i64 ((i : Int) + 1))).toNat < N - (intOf (Value.int .i64 (i : Int))).toNat := by simp [intOf]; omega

theorem numL (i : Nat) : Value.int .i64 ((i : Int) + 1) = Value.int .i64 ((i + 1 : Nat) : Int) := rfl

theorem eqBL (p k : Nat) : ((p : Int) == (k : Int)) = decide (p = k) := by
  rw [Bool.eq_iff_iff, beq_iff_eq, decide_eq_true_iff]; omega

theorem anyR_succ {o : List Nat} {x j y : Nat} (h : o[j]? = some y) : (o.take (j + 1)).any (fun z => decide (x = z)) = ((o.take j).any (fun z => decide (x = z)) || decide (x = y)) := by
  rw [List.take_add_one, h, List.any_append]
  simp

theorem anyR_iff {o : List Nat} {x : Nat} : o.any (fun z => decide (x = z)) = true ↔ x ∈ o := by
  rw [List.any_eq_true]
  constructor
  · rintro ⟨y, h1, h2⟩; rw [of_decide_eq_true h2]; exact h1
  · intro h; exact ⟨x, h, decide_eq_true rfl⟩

theorem cmpR_lt (s t : Nat) : (cmpR s t < 0) ↔ keyC s < keyC t := by
  unfold cmpR
  by_cases h : keyC s < keyC t
  · rw [if_pos h]; simp [h]
  · rw [if_neg h]
    by_cases h2 : s = t
    · rw [if_pos h2]; simp [h]
    · rw [if_neg h2]; simp [h]

/-- Cells of an own row from a place on. -/
theorem src_cells {W : World} {B g n cq : Nat} {xs : List Value} (h : W.ownsRow B 3 1 (.slice (some ⟨g, 0, none⟩) n cq) n xs) (k : Nat) : ∀ j v, (xs.drop k)[j]? = some v → W.cell? ((⟨g, k, none⟩ : Addr).add j) = some v := fun j v hv => by
  rw [List.getElem?_drop] at hv
  have h1 := h.cells (g := g) rfl (k + j) v hv
  rw [Addr.add_lit] at h1 ⊢
  simpa using h1

theorem own_block {W : World} {B g n cq : Nat} {xs : List Value} (h : W.ownsRow B 3 1 (.slice (some ⟨g, 0, none⟩) n cq) n xs) : ∃ cur : List Value, W.heap[g]? = some (.cells cur.toArray 3 (0, 0)) ∧ B ≤ g ∧ n ≤ cq ∧ cq ≤ maxLen ∧ cur.length = cq ∧ cur.take n = xs := by
  rcases h.2 with ⟨h', _⟩ | ⟨g', cap', cur, h', hb, hg, h1, h2, h3, h4⟩
  · simp at h'
  · simp only [Value.slice.injEq, Option.some.injEq, Addr.mk.injEq, and_true, true_and] at h'
    obtain ⟨rfl, rfl⟩ := h'
    exact ⟨cur.toList, by simpa using hg, hb, h1, h2, by simpa using h3, by simpa using h4⟩

theorem own_splice {W : World} {B g n cq k : Nat} {cur : List Value} {xs : List Value} {z : Value} (hx : xs.length = n) (hk : k ≤ n) (hb : B ≤ g) (h1 : n + 1 ≤ cq) (h2 : cq ≤ maxLen) (h3 : cur.length = cq) (h4 : cur.take (n + 1) = xs ++ [z]) (hg : W.heap[g]? = some (.cells (splice cur (k + 1) (xs.drop k)).toArray 3 (0, 0))) :
    W.ownsRow B 3 1 (.slice (some ⟨g, 0, none⟩) (n + 1) cq) (n + 1) ((xs ++ [z]).take (k + 1) ++ xs.drop k) := by
  have hd : (xs.drop k).length = n - k := by rw [List.length_drop, hx]
  refine ⟨by rw [List.length_append, hd]; simp; omega, .inr ⟨g, cq, _, rfl, hb, hg, h1, h2, ?_, ?_⟩⟩
  · rw [List.size_toArray, length_splice _ _ _ (by rw [hd]; omega)]; omega
  · rw [← h4]
    show ((splice cur (k + 1) (xs.drop k)).toArray.toList).take ((n + 1) * 1) = _
    unfold splice
    rw [Nat.mul_one, List.take_take, ← List.append_assoc, List.take_append_of_le_length (by rw [List.length_append, List.length_take, hd]; omega)]
    rw [List.take_of_length_le (by rw [List.length_append, List.length_take, hd]; omega), Nat.min_eq_left (by omega)]

set_option maxRecDepth 100000 in
set_option maxHeartbeats 8000000 in
theorem rleast_run (P : Nat → Prop) (v : Value) (ls : List Nat) (w : World) (hl : ls.length ≤ 1024) (hls : ∀ t ∈ ls, t < 1024) (hN : NodesAt P w v (zs ls)) :
    Calls Try.prog 30 #[v] w fun e w' => ∃ v' l, e = .returned v' ∧ w'.ownsRow w.heap.size 3 1 v' l.length ((zs l).map (Value.int .i64)) ∧ IsLeast (pz (zs ls)) l ∧ Below w.heap.size w w' := by
  obtain ⟨i0, hin, hz0, hz1, hz2⟩ := info_parts infoInt
  obtain ⟨A, c, rfl⟩ : ∃ A c, v = .slice A ls.length c := by
    obtain ⟨A, c, h1, _⟩ := hN
    rw [zs_len] at h1
    exact ⟨A, c, h1⟩
  have HLS := Lib.hid hls
  have HN := Lib.hid hN
  obtain ⟨n, hn⟩ : ∃ n, ls.length = n := ⟨_, rfl⟩
  have HNN := Lib.hid hn
  rw [hn] at HN hl ⊢
  clear hls hN hn
  go_enter Try.func30, Try.ntmps30
  go_wp2_with fail
  go_loopw [3, 15] (fun v t W => ∃ (i : Nat) (o : List Nat) (vv : Value), i ≤ n ∧ v = vv ∧ t = .int .i64 i ∧ W.ownsRow w.heap.size 3 1 vv o.length ((zs o).map (Value.int .i64)) ∧ Hid (OutR ls i o) ∧ Hid (Below w.heap.size w W)) (fun _ t _ => n - (intOf t).toNat)
  case atStart => exact ⟨0, [], .slice none 0 0, Nat.zero_le _, rfl, rfl, World.ownsRow_nil _ _ _ _, Lib.hid (OutR.zero _), Lib.hid (bref _)⟩
  case round =>
    obtain ⟨i, o, vv, hi, hv, rfl, hown, hO, hB⟩ := hrel
    replace hv := hv.symm
    subst hv
    have hol := hO.out.len HLS.out
    have HOW := Lib.hid hown
    obtain ⟨Ao, co, hvo⟩ := own_slice hown
    subst hvo
    obtain ⟨no, hno⟩ : ∃ no, o.length = no := ⟨_, rfl⟩
    have HNO := Lib.hid hno
    rw [hno] at hol HOW
    rw [hno]
    clear hown hno
    have HNo := Lib.hid (HN.out.below hB.out)
    by_cases hlt : i < n
    · obtain ⟨b, off, rfl, hci, hxi⟩ := listCellR HNo.out (show i < ls.length by rw [HNN.out]; exact hlt)
      have hxl := HLS.out _ (List.mem_of_getElem? hxi)
      have HXI := Lib.hid hxi
      generalize ls.getD i 0 = x at *
      clear hxi
      have hxv := Lib.hid (show setB (x : Int) = true from setB_iff.2 ⟨by omega, by omega⟩)
      go_wp2_with fail
      refine (rsetValid_run _ _).mono ?_
      rintro e w2 ⟨rfl, rfl⟩
      rw [hxv.out]
      go_wp2_with fail
      go_loop [6, 23] (fun a t => ∃ j : Nat, j ≤ n ∧ a = .bool (lBR ls x j) ∧ t = .int .i64 j) (fun _ t => n - (intOf t).toNat)
      case atStart => exact ⟨0, Nat.zero_le _, by rw [lBR_zero], rfl⟩
      case round =>
        obtain ⟨j, hj, rfl, rfl⟩ := hrel
        by_cases hlt2 : j < n
        · obtain ⟨b', off', e1, hcj, hyj⟩ := listCellR HNo.out (show j < ls.length by rw [HNN.out]; exact hlt2)
          cases e1
          have HS := Lib.hid (lBR_succ (x := x) hyj)
          have hyl := HLS.out _ (List.mem_of_getElem? hyj)
          generalize ls.getD j 0 = y at *
          generalize lBR ls x j = bk at *
          clear hyj
          have hyv := Lib.hid (show setB (y : Int) = true from setB_iff.2 ⟨by omega, by omega⟩)
          have q3 := i64_and_nat y x (by omega) (by omega)
          rcases (show bk = false ∨ bk = true by cases bk <;> simp) with rfl | rfl
          · go_wp2_with fail
            go_round
            case rel => exact ⟨j + 1, hlt2, by rw [HS.out]; simp, numL j⟩
            case measure => exact measL j n hlt2
          · by_cases hxy : y = x
            · subst hxy
              go_wp2_with fail
              refine (rsetValid_run _ _).mono ?_
              rintro e w2 ⟨rfl, rfl⟩
              rw [hyv.out]
              go_wp2_with fail
              go_round
              case rel => exact ⟨j + 1, hlt2, by rw [HS.out]; simp, numL j⟩
              case measure => exact measL j n hlt2
            · have q1 : ((y : Int) != (x : Int)) = true := by rw [bne, eqBL, decide_eq_false hxy]; rfl
              by_cases hsub : y &&& x = y
              · have HS2 := Lib.hid (show (y != x && y &&& x == y) = true by simp [hxy, hsub])
                rw [hsub] at q3
                go_wp2_with fail
                refine (rsetValid_run _ _).mono ?_
                rintro e w2 ⟨rfl, rfl⟩
                rw [hyv.out]
                go_wp2_with fail
                go_round
                case rel => exact ⟨j + 1, hlt2, by rw [HS.out, HS2.out]; rfl, numL j⟩
                case measure => exact measL j n hlt2
              · have HS2 := Lib.hid (show (y != x && y &&& x == y) = false by simp [hsub])
                have q2 : (((y &&& x : Nat) : Int) == (y : Int)) = false := by rw [eqBL, decide_eq_false hsub]
                generalize y &&& x = yx at *
                go_wp2_with fail
                refine (rsetValid_run _ _).mono ?_
                rintro e w2 ⟨rfl, rfl⟩
                rw [hyv.out]
                go_wp2_with fail
                go_round
                case rel => exact ⟨j + 1, hlt2, by rw [HS.out, HS2.out]; rfl, numL j⟩
                case measure => exact measL j n hlt2
        · obtain rfl : j = n := Nat.le_antisymm hj (Nat.not_lt.1 hlt2)
          have HLI := Lib.hid (lBR_iff (l := ls) (x := x))
          rw [HNN.out] at HLI
          generalize lBR ls x j = bk at *
          rcases (show bk = false ∨ bk = true by cases bk <;> simp) with rfl | rfl
          · have HO2 := Lib.hid (hO.out.skip HXI.out (.inl (fun h => by have := HLI.out.2 h; simp at this)))
            have HOW2 := Lib.hid (show wr.ownsRow w.heap.size 3 1 (.slice Ao no co) o.length ((zs o).map (Value.int .i64)) by rw [HNO.out]; exact HOW.out)
            go_wp2_with fail
            go_roundw
            case rel => exact ⟨i + 1, o, _, hlt, rfl, numL i, HOW2.out, HO2, hB⟩
            case measure => exact measL i j hlt
          · have HLE := Lib.hid (HLI.out.1 rfl)
            clear HLI
            have HNoo := Lib.hid (show NodesAt (fun b => w.heap.size ≤ b) wr (.slice Ao no co) (zs o) from
              NodesAt.of_ownZ (show wr.ownsRow w.heap.size 3 1 (.slice Ao no co) o.length ((zs o).map (Value.int .i64)) by rw [HNO.out]; exact HOW.out))
            have HOL := Lib.hid (show ∀ t ∈ o, t < 1024 from fun t ht => HLS.out t (List.mem_of_mem_take ((hO.out.mem t).1 ht).1))
            have HPI := Lib.hid (show (posR o x 0 = 0) from rfl)
            have HPS := Lib.hid (show ∀ q y, o[q]? = some y → posR o x (q + 1) = if keyC y < keyC x then q + 1 else posR o x q from fun q y h => by
              show (if keyC (o.getD q 0) < keyC x then q + 1 else posR o x q) = _
              rw [List.getD_eq_getElem?_getD, h]; rfl)
            go_wp2_with fail
            go_loop [9, 10, 50] (fun k a t => ∃ q : Nat, q ≤ no ∧ k = .int .i64 (posR o x q : Nat) ∧ a = .bool ((o.take q).any (fun z => decide (x = z))) ∧ t = .int .i64 q) (fun _ _ t => no - (intOf t).toNat)
            case atStart => exact ⟨0, Nat.zero_le _, by rw [HPI.out]; rfl, rfl, rfl⟩
            case round =>
              obtain ⟨q, hq, rfl, rfl, rfl⟩ := hrel
              by_cases hlt3 : q < no
              · obtain ⟨b'', off'', rfl, hcq, hzq⟩ := listCellR HNoo.out (show q < o.length by rw [HNO.out]; exact hlt3)
                have HPQ := Lib.hid (HPS.out q _ hzq)
                have HAQ := Lib.hid (anyR_succ (x := x) hzq)
                have hzl := HOL.out _ (List.mem_of_getElem? hzq)
                generalize o.getD q 0 = z at *
                have q1 := eqBL x z
                generalize decide (x = z) = bz at *
                generalize (o.take q).any (fun z => decide (x = z)) = ba at *
                have hpq : posR o x q ≤ 1024 := by have := posR_le o x q; omega
                generalize posR o x q = pq at *
                have HCR := Lib.hid (fun W => rcompare_run z x hzl hxl W)
                have hcl := cmpR_lt z x
                generalize cmpR z x = cm at *
                clear hzq
                by_cases hkk : keyC z < keyC x
                · rw [if_pos hkk] at HPQ
                  have hcm : cm < 0 := hcl.2 hkk
                  rcases (show ba = false ∨ ba = true by cases ba <;> simp) with rfl | rfl
                  all_goals
                    go_wp2_with fail
                    refine (HCR.out _).mono ?_
                    rintro e w2 ⟨rfl, rfl⟩
                    go_wp2_with fail
                    go_round
                    case rel => exact ⟨q + 1, hlt3, by rw [HPQ.out]; rfl, by rw [HAQ.out]; rfl, numL q⟩
                    case measure => exact measL q no hlt3
                · rw [if_neg hkk] at HPQ
                  have hcm : ¬ cm < 0 := fun h => hkk (hcl.1 h)
                  rcases (show ba = false ∨ ba = true by cases ba <;> simp) with rfl | rfl
                  all_goals
                    go_wp2_with fail
                    refine (HCR.out _).mono ?_
                    rintro e w2 ⟨rfl, rfl⟩
                    go_wp2_with fail
                    go_round
                    case rel => exact ⟨q + 1, hlt3, by rw [HPQ.out], by rw [HAQ.out]; rfl, numL q⟩
                    case measure => exact measL q no hlt3
              · obtain rfl : q = no := Nat.le_antisymm hq (Nat.not_lt.1 hlt3)
                have HAI := Lib.hid (anyR_iff (o := o) (x := x))
                have HTK := Lib.hid (show o.take q = o by rw [← HNO.out, List.take_length])
                rw [HTK.out]
                generalize o.any (fun z => decide (x = z)) = ba at *
                rcases (show ba = false ∨ ba = true by cases ba <;> simp) with rfl | rfl
                · have HNI := Lib.hid (show x ∉ o from fun h => by have := HAI.out.2 h; simp at this)
                  have HIN := Lib.hid (hO.out.ins HLS.out HXI.out HLE.out HNI.out)
                  have hpq := posR_le o x q
                  rw [HNO.out] at HIN
                  have HIL := Lib.hid (insR_len (o := o) (x := x) (k := posR o x q) (by rw [HNO.out]; exact hpq))
                  have HIR := Lib.hid (show insR o x (posR o x q) = o.take (posR o x q) ++ x :: o.drop (posR o x q) from rfl)
                  generalize insR o x (posR o x q) = oi at *
                  generalize posR o x q = k at *
                  have hown := HOW.out
                  have hbs := hB.out.size
                  obtain ⟨X, hX⟩ : ∃ X, X = (zs o).map (Value.int .i64) := ⟨_, rfl⟩
                  have HX := Lib.hid hX
                  have hXl : X.length = q := by rw [hX, List.length_map, zs_len, HNO.out]
                  have HXL := Lib.hid hXl
                  have H1C := Lib.hid (show ∀ u ∈ X.drop k, u.oneCell' = true from fun u hu => by
                    have h := List.mem_of_mem_drop hu
                    rw [hX] at h
                    obtain ⟨a, _, rfl⟩ := List.mem_map.1 h
                    rfl)
                  have HCL := Lib.hid (show (X.drop k).length = q - k by rw [List.length_drop, hXl])
                  rw [← hX] at hown
                  clear HAI hX hXl
                  go_upto_region 22 with (at_builtin; refine wpList_append_own _ rfl _ _ 22 rfl w.heap.size 3 i0 (.int .i64 0) 1 8 Try.underlying22 hin hz0 hz1 hz2 rfl (by decide) _ _ _ rfl (hown.alloc _) ⟨wr.heap.size, 0, none⟩ 1 1 [.int .i64 0] rfl rfl (cell_one_new _ _ _) (fun u hu => by simp at hu; subst hu; rfl) (by unfold maxLen; omega) (by omega) (by simp; omega) ?_; intro v' W3 hown3 hgrow3 hnil; obtain ⟨gq, cq, rfl, hgq, hlq⟩ := hown3.form (by omega))
                  have HB3 := Lib.hid (Below.grown (balloc hB.out (.cells #[.int .i64 0] 3)) hgrow3 (by simp; omega) (fun j hj => (hown.lt j hj).1))
                  obtain ⟨cur, hcg, hgB, hnc, hcm, hcl, hct⟩ := own_block hown3
                  have HSRC := Lib.hid (show ∀ j v, (X.drop k)[j]? = some v → W3.cell? ((⟨gq, k, none⟩ : Addr).add j) = some v from fun j v hv => src_cells hown3 k j v (by
                    rw [List.getElem?_drop] at hv ⊢
                    rw [List.getElem?_append_left (List.getElem?_eq_some_iff.1 hv).1]
                    exact hv))
                  have HCG := Lib.hid hcg
                  have HCT := Lib.hid hct
                  have hcl64 : cq ≤ 9223372036854775807 := by unfold maxLen at hcm; omega
                  have HCM := Lib.hid hcm
                  have HCLL := Lib.hid hcl
                  have HSZ := Lib.hid (show (Try.prog.info? 3).map (·.size) = some 1 by rw [hin]; simp [hz1])
                  clear hcg hct hcm hcl hown3 hgrow3 hnil hown
                  obtain ⟨k1, hk1⟩ : ∃ k1, k1 = k + 1 := ⟨_, rfl⟩
                  have HK1 := Lib.hid hk1
                  have hwk : IntKind.i64.wrap ((k : Int) + 1) = (k1 : Int) := (IntWalk.i64_in _ (by omega)).trans (by omega)
                  have hk1q : (k1 : Int) ≤ (q : Int) + 1 := by omega
                  have hkq : (k : Int) ≤ (q : Int) + 1 := by omega
                  have hck : ¬ cq = k := by omega
                  have HKQ := Lib.hid (show k1 + (q - k) = q + 1 ∧ q + 1 - k1 = q - k ∧ q - k ≤ q + 1 - k by omega)
                  have HK0 := Lib.hid (show cq = k1 → q - k = 0 from fun h => by omega)
                  clear hk1
                  by_cases hkc : cq = k1
                  · subst hkc
                    have hkc2 : ¬ cq = k := hck
                    go_region_law (refine step_copy_splice rfl (.tmp 76) (.tmp 79) 22 22 rfl 3 Try.underlying22 HSZ.out (some ⟨gq, 0, none⟩) (some ⟨gq, k, none⟩) 0 0 (q + 1 - k) (cq - k) (by simp [Act.eval, Act.put, hkc2]) (by simp [Act.eval, Act.put, hkc2]) gq cq cur 3 (by exact HCG.out) (X.drop k) (by rw [HCL.out]; exact (show ∀ a b c : Nat, c = min a b → c = Nat.min a b from fun _ _ _ h => h) _ _ _ (by have h1 := HKQ.out; have h2 := HK0.out rfl; omega)) (fun h0 => absurd h0 (by rw [HCL.out, HK0.out rfl]; omega)) (by rw [HCL.out, HCLL.out, HKQ.out.1]; exact hnc) H1C.out w.heap.size w (by exact bstep HB3.out (bdrew' _)) hgB ?_; intro W4 hW4 hb4)
                    all_goals
                      have own4 := own_splice (W := W4) (B := w.heap.size) (z := .int .i64 0) HXL.out hpq hgB hnc HCM.out HCLL.out HCT.out (by have h := hW4.out; rw [HK1.out] at h; exact h)
                      have hyl : ((X ++ [Value.int .i64 0]).take (k + 1) ++ X.drop k).length = q + 1 := own4.1.trans (Nat.mul_one _)
                      have st5 := own4.stored k (.int .i64 (x : Int))
                      have hce := own4.cellAt k (by omega)
                      obtain ⟨u0, hu0⟩ : ∃ u, ((X ++ [Value.int .i64 0]).take (k + 1) ++ X.drop k)[k]? = some u := ⟨_, List.getElem?_eq_getElem (by rw [hyl]; omega)⟩
                      rw [hu0] at hce
                      clear hu0
                      have hfz := own4.frozenAt k
                      have HB5 := Lib.hid (Below.grown hb4 st5.2 hb4.size (fun j hj => by cases hj; exact hgB))
                      have HO5 := Lib.hid st5.1
                      have hkl : (k : Int) < (q : Int) + 1 := by omega
                      clear own4 st5 hyl hb4 hW4 HSRC HCG
                      go_wp2_with fail
                      go_roundw
                      case rel => exact ⟨i + 1, oi, _, hlt, rfl, numL i, by
                        rw [HIL.out, HNO.out, HIR.out]
                        have h := HO5.out
                        rw [insR_get (by rw [HXL.out]; exact hpq), HX.out] at h
                        rw [show (zs (o.take k ++ x :: o.drop k)).map (Value.int .i64) = ((zs o).map (Value.int .i64)).take k ++ Value.int .i64 (x : Int) :: ((zs o).map (Value.int .i64)).drop k by
                          unfold zs
                          simp [List.map_take, List.map_drop]]
                        exact h, Lib.hid HIN.out, HB5⟩
                      case measure => exact measL i j hlt
                  · go_region_law (refine step_copy_splice rfl (.tmp 76) (.tmp 79) 22 22 rfl 3 Try.underlying22 HSZ.out (some ⟨gq, k1, none⟩) (some ⟨gq, k, none⟩) (q + 1 - k1) (cq - k1) (q + 1 - k) (cq - k) (by simp [Act.eval, Act.put]) (by simp [Act.eval, Act.put]) gq k1 cur 3 (by exact HCG.out) (X.drop k) (by rw [HCL.out]; exact (show ∀ a b c : Nat, c = min a b → c = Nat.min a b from fun _ _ _ h => h) _ _ _ (by have := HKQ.out; omega)) (fun h0 => ⟨rfl, _, rfl, HSRC.out⟩) (by rw [HCL.out, HCLL.out, HKQ.out.1]; exact hnc) H1C.out w.heap.size w (by exact bstep HB3.out (bdrew' _)) hgB ?_; intro W4 hW4 hb4)
                    all_goals
                      have own4 := own_splice (W := W4) (B := w.heap.size) (z := .int .i64 0) HXL.out hpq hgB hnc HCM.out HCLL.out HCT.out (by have h := hW4.out; rw [HK1.out] at h; exact h)
                      have hyl : ((X ++ [Value.int .i64 0]).take (k + 1) ++ X.drop k).length = q + 1 := own4.1.trans (Nat.mul_one _)
                      have st5 := own4.stored k (.int .i64 (x : Int))
                      have hce := own4.cellAt k (by omega)
                      obtain ⟨u0, hu0⟩ : ∃ u, ((X ++ [Value.int .i64 0]).take (k + 1) ++ X.drop k)[k]? = some u := ⟨_, List.getElem?_eq_getElem (by rw [hyl]; omega)⟩
                      rw [hu0] at hce
                      clear hu0
                      have hfz := own4.frozenAt k
                      have HB5 := Lib.hid (Below.grown hb4 st5.2 hb4.size (fun j hj => by cases hj; exact hgB))
                      have HO5 := Lib.hid st5.1
                      have hkl : (k : Int) < (q : Int) + 1 := by omega
                      clear own4 st5 hyl hb4 hW4 HSRC HCG
                      go_wp2_with fail
                      go_roundw
                      case rel => exact ⟨i + 1, oi, _, hlt, rfl, numL i, by
                        rw [HIL.out, HNO.out, HIR.out]
                        have h := HO5.out
                        rw [insR_get (by rw [HXL.out]; exact hpq), HX.out] at h
                        rw [show (zs (o.take k ++ x :: o.drop k)).map (Value.int .i64) = ((zs o).map (Value.int .i64)).take k ++ Value.int .i64 (x : Int) :: ((zs o).map (Value.int .i64)).drop k by
                          unfold zs
                          simp [List.map_take, List.map_drop]]
                        exact h, Lib.hid HIN.out, HB5⟩
                      case measure => exact measL i j hlt
                · have HO2 := Lib.hid (hO.out.skip HXI.out (.inr (HAI.out.1 rfl)))
                  have HOW2 := Lib.hid (show wr.ownsRow w.heap.size 3 1 (.slice Ao q co) o.length ((zs o).map (Value.int .i64)) by rw [HNO.out]; exact HOW.out)
                  clear HAI
                  go_wp2_with fail
                  go_roundw
                  case rel => exact ⟨i + 1, o, _, hlt, rfl, numL i, HOW2.out, HO2, hB⟩
                  case measure => exact measL i j hlt
    · obtain rfl : i = n := Nat.le_antisymm hi (Nat.not_lt.1 hlt)
      have HF := Lib.hid (show w.heap.size ≤ w.heap.size ∧ wr.ownsRow w.heap.size 3 1 (.slice Ao no co) o.length ((zs o).map (Value.int .i64)) ∧ IsLeast (pz (zs ls)) o ∧ Below w.heap.size w wr from
        ⟨Nat.le_refl _, by rw [HNO.out]; exact HOW.out, by
          have h := hO.out
          rw [← HNN.out] at h
          exact h.least HLS.out, hB.out⟩)
      go_wp2_with fail
      go_ret
      exact ⟨_, o, rfl, HF.out.2⟩

end Go.Proofs.Ytnfdacfhhkahhaa
