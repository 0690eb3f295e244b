/- blocking.Least at any right configuration. -/
import Derived.Test.YtnfdacfhhkahhaaAwake11
import Derived.Test.YtnfdacfhhkahhaaLFold
import Derived.Test.YtnfdacfhhkahhaaMeet
import Derived.Test.YtnfdacfhhkahhaaB5
import Derived.Lib.SmallJoins
namespace Go.Proofs.Ytnfdacfhhkahhaa
set_option linter.unusedVariables false
set_option linter.unusedSimpArgs false
open Go.RowKit

set_option maxHeartbeats 400000 in
theorem bl1_run (s t : Nat) (sb : Nat) (hs : s < 1024) (ht : t < 1024) (w : World) (hc : w.cell? ⟨sb, 0, none⟩ = some (.int .i64 (s : Int))) :
    Calls Try.prog 38 #[.int .i64 (t : Int), .pointer (some ⟨sb, 0, none⟩)] w fun e w' => e = .returned (.bool (subB t s)) ∧ Below w.heap.size w w' := by
  have HA := Lib.hid (andnot_sub t s ht hs)
  go_enter Try.func38, Try.ntmps38
  go_wp2_with fail
  go_ret
  exact ⟨by rw [← HA.out]; rfl, bref _⟩
theorem enters_bl1 : ∀ args w, (callFunc 38 args).run Try.prog w = .ok (.enter 38 args) w := enters_of Try.func38 (by kernel_rfl) rfl

set_option maxRecDepth 100000 in
set_option maxHeartbeats 4000000 in
theorem bleast_run (P : Nat → Prop) (ms : List Mem) (v : Value) (k : Nat) (w : World) (hl : ms.length ≤ 10) (hk : k < ms.length) (hd : (ms.getD k (false, .mk 0 [] [])).1 = true) (hok : MemsOk ms.length ms) (h : MemsAt P 2 w v ms) :
    Calls Try.prog 12 #[.agg #[v], .int .i64 (k : Int)] w fun e w' => (∃ lv, e = .returned (.tuple #[lv, .int .i64 0]) ∧ w'.ownsRow w.heap.size 3 1 lv (lfold (fun s => blkM 2 ms s k) (ordN 10)).length ((zs (lfold (fun s => blkM 2 ms s k) (ordN 10))).map (Value.int .i64))) ∧ Below w.heap.size w w' := by
  obtain ⟨i0, hin, hz0, hz1, hz2⟩ := info_parts infoInt
  obtain ⟨A, c, rfl⟩ := h.slice
  obtain ⟨n, hn⟩ : ∃ n, ms.length = n := ⟨_, rfl⟩
  have HNN := Lib.hid hn
  have hb1 : Below w.heap.size w (w.alloc (.cells #[.slice A ms.length c] 27)) := balloc (bref w) _
  have k0 : (w.alloc (.cells #[.slice A ms.length c] 27)).heap[w.heap.size]? = some (.cells #[.slice A ms.length c] 27 (0, 0)) := alloc_at rfl
  have H := Lib.hid (h.below hb1)
  have HB := Lib.hid hb1
  have K0 := Lib.hid k0
  have HOK := Lib.hid hok
  have HD := Lib.hid hd
  have hk10 : k < 10 := by omega
  obtain ⟨p, hp⟩ : ∃ p : Nat → Bool, p = (fun s => blkM 2 ms s k) := ⟨_, rfl⟩
  have HBLK := Lib.hid (show ∀ s : Nat, s < 1024 → ∀ W, MemsAt P 2 W (.slice A ms.length c) ms → Calls Try.prog 10 #[.agg #[.slice A ms.length c], .int .i64 (k : Int), .int .i64 (s : Int)] W (fun e w' => e = .returned (.bool (p s)) ∧ Below W.heap.size W w') from fun s hs W h => by
    have h2 := blocks_run P 2 ms _ k s W hl hs hk10 h
    rw [show blkM 2 ms s k = p s from by rw [hp]] at h2
    exact h2)
  have HLS := Lib.hid (lfold_snoc p)
  have HLB := Lib.hid (show ∀ i t, t ∈ lfold p ((ordN 10).take i) → t < 1024 from fun i t ht => by
    rcases lfold_sub p _ [] t ht with h | h
    · cases h
    · exact ord_lt 10 (by omega) t (List.mem_of_mem_take h))
  have HLL := Lib.hid (show ∀ i, (lfold p ((ordN 10).take i)).length ≤ 1024 from fun i => by
    have h := lfold_len p ((ordN 10).take i) []
    have h2 : ((ordN 10).take i).length ≤ 1024 := by rw [List.length_take, ord_len]; exact Nat.min_le_right _ _
    show (((ordN 10).take i).foldl (lstep p) []).length ≤ 1024
    simp only [List.length_nil, Nat.zero_add] at h
    omega)
  have HTK := Lib.hid (show ∀ i, 1024 ≤ i → (ordN 10).take i = ordN 10 from fun i hi => List.take_of_length_le (by rw [ord_len]; exact hi))
  have HT1 := Lib.hid (show ∀ i s, (ordN 10)[i]? = some s → (ordN 10).take (i + 1) = (ordN 10).take i ++ [s] from fun i s h => by rw [List.take_add_one, h]; rfl)
  have HSTP := Lib.hid (fun i s (h : (ordN 10)[i]? = some s) => ord_step 10 (by omega) i s h)
  rw [← hp]
  rw [hn] at H HB K0 HOK hl hk HBLK ⊢
  clear h hb1 k0 hok hd hn hp
  go_enter Try.func12, Try.ntmps12
  go_upto_region 1 with fail
  generalize w.alloc (.cells #[.slice A n c] 27) = W1 at *
  generalize hg : w.heap.size = g at *
  have HG := Lib.hid hg
  clear hg
  have c0 : W1.cell? ⟨g, 0, none⟩ = some (.slice A n c) := cell_of_row _ _ 0 _ _ (0, 0) K0.out
  have hgl := cell_lt c0
  go_wp2_with fail
  refine (cvalid_run P ms _ _ (by rw [HNN.out]; exact hl) H.out (by rw [HNN.out]; exact HOK.out)).mono ?_
  rintro e W2 ⟨rfl, hb2⟩
  have H2 := Lib.hid (H.out.below hb2)
  have HB2 := Lib.hid (show Below w.heap.size w W2 by
    have h1 := HB.out
    rw [← HG.out] at h1
    exact bstep h1 hb2)
  have c0' := (hb2.cell hgl).trans c0
  have hgl2 : g < W2.heap.size := Nat.lt_of_lt_of_le hgl hb2.size
  clear hb2 c0 H HB K0
  obtain ⟨b, off, t, A1, n1, c1, A2, n2, c2, hA, hP, hbl, e0, e1, e2, e3, hT⟩ := memBox (k := k) (m := ms.getD k (false, .mk 0 [] [])) (ms := ms) (show MemsAt P 2 W2 (.slice A ms.length c) ms from by rw [HNN.out]; exact H2.out) (by rw [List.getD_eq_getElem?_getD, List.getElem?_eq_getElem (by rw [HNN.out]; exact hk)]; rfl)
  subst hA
  rw [HD.out] at e0
  have d0 := e0
  have C0 := Lib.hid c0'
  have hki : (k : Int) < (n : Int) := by omega
  have hk0 : ¬ (k : Int) < 0 := by omega
  have hkn : ¬ (n : Int) ≤ (k : Int) := by omega
  clear e1 e2 e3 hT e0
  have k8 : (W2.alloc (.cells #[.int .i64 0] 3)).heap[W2.heap.size]? = some (.cells #[.int .i64 ((0 : Nat) : Int)] 3 (0, 0)) := alloc_at rfl
  have K8 := Lib.hid k8
  clear k8
  go_wp2_with fail
  simp only [show decide (n ≤ k) = false from decide_eq_false (by omega), show decide ((k : Int) < 0) = false from decide_eq_false (by omega), Bool.or_self]
  go_loopw [7, 8, 9] (fun lv bv kv W => ∃ (i s box : Nat) (ok : Bool) (L : List Nat) (lw : Value), lv = lw ∧ bv = .pointer (some ⟨box, 0, none⟩) ∧ kv = .bool ok ∧ s < 1024 ∧ W2.heap.size ≤ box ∧ Hid (W.heap[box]? = some (.cells #[.int .i64 (s : Int)] 3 (0, 0))) ∧ Hid (L = lfold p ((ordN 10).take i)) ∧ Hid (W.ownsRow W2.heap.size 3 1 lw L.length ((zs L).map (Value.int .i64))) ∧ Hid (ok = true → (ordN 10)[i]? = some s) ∧ Hid (ok = false → 1024 ≤ i) ∧ Hid (∀ j, lw.ownBlock = some j → j < box) ∧ Hid (Below W2.heap.size W2 W)) (fun _ bv kv W => msr bv kv W)
  case atStart => exact ⟨0, 0, W2.heap.size, true, [], .slice none 0 0, rfl, rfl, rfl, by omega, Nat.le_refl _, K8, Lib.hid rfl, Lib.hid (World.ownsRow_nil _ _ _ _), Lib.hid (fun _ => ord_zero _), Lib.hid (fun h => by cases h), Lib.hid (fun j h => by simp [Value.ownBlock] at h), Lib.hid (balloc (bref W2) _)⟩
  case round =>
    obtain ⟨i, s, box, ok, L, lw, hlv, rfl, rfl, hs, hbox, hK, hL, hRow, hT, hE, hOB, hB⟩ := hrel
    replace hlv := hlv.symm
    subst hlv
    clear d0 c0'
    cases ok
    · have HF := Lib.hid (bstep HB2.out hB.out)
      have HLF := Lib.hid (show L = lfold p (ordN 10) from by rw [hL.out, HTK.out i (hE.out rfl)])
      have HRF := Lib.hid (show wr.ownsRow w.heap.size 3 1 lw (lfold p (ordN 10)).length ((zs (lfold p (ordN 10))).map (Value.int .i64)) from by
        rw [← HLF.out]; exact Go.Joins.ownsRow_le hRow.out HB2.out.size)
      obtain ⟨Az, cz, hz⟩ := own_slice hRow.out
      subst hz
      go_wp2_with fail
      go_ret2
      exact ⟨⟨_, rfl, HRF.out⟩, HF.out⟩
    · have HI := Lib.hid (hT.out rfl)
      have HLN := Lib.hid (show lfold p ((ordN 10).take (i + 1)) = lstep p L s from by rw [HT1.out i s HI.out, HLS.out, ← hL.out])
      have hll : L.length ≤ 1024 := by rw [hL.out]; exact HLL.out i
      have HLT := Lib.hid (show ∀ t ∈ L, t < 1024 from fun t ht => HLB.out i t (by rw [← hL.out]; exact ht))
      have HMS := Lib.hid (msr_true (W := wr) (a := ⟨box, 0, none⟩) (s := s) (cell_of_row _ _ 0 _ _ (0, 0) hK.out))
      have q0 : wr.cell? ⟨box, 0, none⟩ = some (.int .i64 (s : Int)) := cell_of_row _ _ 0 _ _ (0, 0) hK.out
      have c1 : wr.cell? ⟨g, 0, none⟩ = some (.slice (some ⟨b, off, none⟩) n c) := (hB.out.cell hgl2).trans C0.out
      go_wp2_with fail
      refine (HBLK.out s hs _ (H2.out.below hB.out)).mono ?_
      rintro e W4 ⟨rfl, hb4⟩
      have q4 := (hb4.cell (cell_lt q0)).trans q0
      have HB4 := Lib.hid (bstep hB.out hb4)
      have HO4 := Lib.hid (own_belS hRow.out hb4)
      obtain ⟨Az, cz, hz⟩ := own_slice hRow.out
      subst hz
      clear hb4 q0 c1 hRow hB hK hT hE
      rcases (show p s = false ∨ p s = true by cases p s <;> simp) with hps | hps
      · have HLX := Lib.hid (show L = lfold p ((ordN 10).take (i + 1)) from by rw [HLN.out]; unfold lstep; rw [hps]; rfl)
        rw [hps]
        clear hps
        have hsz8 : W2.heap.size ≤ W4.heap.size := HB4.out.size
        go_wp2_with fail
        refine (pnext_run s 10 (by omega) (by omega) _).mono ?_
        rintro e w9 ⟨rfl, rfl⟩
        have SET8 := Lib.hid (fun (x : Int) => (alloc_at rfl : (W4.alloc (.cells #[.int .i64 x] 3)).heap[W4.heap.size]? = some (.cells #[.int .i64 x] 3 (0, 0))))
        have OWN8 := Lib.hid (fun (x : Int) => HO4.out.alloc (.cells #[.int .i64 x] 3))
        have BEL8 := Lib.hid (fun (x : Int) => balloc HB4.out (.cells #[.int .i64 x] 3))
        rcases Nat.lt_or_ge (nextN 10 s) 1024 with hnx | hnx
        · have HE := Lib.hid (show nextR 10 s = .returned (.tuple #[.int .i64 (nextN 10 s : Int), .bool true]) by
            unfold nextR; rw [if_neg (show ¬ 2 ^ 10 ≤ nextN 10 s by omega), decide_eq_false (show ¬ 2 ^ 10 ≤ nextN 10 s by omega)]; rfl)
          have HKN := Lib.hid (key_next s hs hnx)
          have HKL := Lib.hid (key_lt _ hnx)
          have HNX := Lib.hid ((HSTP.out i s HI.out).1 hnx)
          rw [HE.out]
          generalize nextN 10 s = sn at *
          go_wp2_with fail
          go_roundw
          case rel => exact ⟨i + 1, sn, _, true, L, _, rfl, rfl, rfl, hnx, hsz8, Lib.hid (SET8.out _), HLX, Lib.hid (OWN8.out _), Lib.hid (fun _ => HNX.out), Lib.hid (fun h => by cases h), Lib.hid (fun j hj => (HO4.out.lt j hj).2), Lib.hid (BEL8.out _)⟩
          case measure =>
            rw [msr_true (s := sn) (cell_of_row _ _ 0 _ _ (0, 0) (SET8.out _)), HMS.out]
            have := HKN.out.1
            have := HKL.out
            omega
        · have HE := Lib.hid (show nextR 10 s = .returned (.tuple #[.int .i64 ((0 : Nat) : Int), .bool false]) by
            unfold nextR; rw [if_pos (show 2 ^ 10 ≤ nextN 10 s by omega), decide_eq_true (show 2 ^ 10 ≤ nextN 10 s by omega)]; rfl)
          have HKL := Lib.hid (key_lt s hs)
          have HEN := Lib.hid (show 1024 ≤ i + 1 from by have := (HSTP.out i s HI.out).2 hnx; omega)
          rw [HE.out]
          go_wp2_with fail
          go_roundw
          case rel => exact ⟨i + 1, 0, _, false, L, _, rfl, rfl, rfl, by omega, hsz8, Lib.hid (SET8.out 0), HLX, Lib.hid (OWN8.out 0), Lib.hid (fun h => by cases h), Lib.hid (fun _ => HEN.out), Lib.hid (fun j hj => (HO4.out.lt j hj).2), Lib.hid (BEL8.out 0)⟩
          case measure =>
            rw [msr_false, HMS.out]
            have := HKL.out
            omega
      · rw [hps]
        have HPS := Lib.hid hps
        obtain ⟨q, hqq⟩ : ∃ q, L.any (fun t => subB t s) = q := ⟨_, rfl⟩
        have HQQ := Lib.hid hqq
        have HC := Lib.hid (containsG_run 38 box (fun t => subB t s) (fun b => W2.heap.size ≤ b) (.slice Az L.length cz) L W4 enters_bl1 (by omega) (NodesAt.of_ownZ HO4.out) (fun x hx W5 hb5 => bl1_run s x box hs (HLT.out x hx) W5 ((hb5.cell (cell_lt q4)).trans q4)))
        rw [hqq] at HC
        clear hps hqq
        go_wp2_with fail
        refine HC.out.mono ?_
        rintro e W5 ⟨rfl, hb5⟩
        have q5 := (hb5.cell (cell_lt q4)).trans q4
        have HB5 := Lib.hid (bstep HB4.out hb5)
        have HO5 := Lib.hid (own_belS HO4.out hb5)
        clear hb5 q4 HC HO4 HB4
        cases q
        · have HLX := Lib.hid (show L ++ [s] = lfold p ((ordN 10).take (i + 1)) from by rw [HLN.out]; unfold lstep; rw [HPS.out, HQQ.out]; rfl)
          have hown := HO5.out
          have hb25 : W2.heap.size ≤ W5.heap.size := HB5.out.size
          have hne : some box ≠ Value.ownBlock (.slice Az L.length cz) := fun h => by have := hOB.out box h.symm; omega
          go_wp2_with (at_builtin; refine wpList_append_own _ rfl _ _ 22 rfl W2.heap.size 3 i0 (.int .i64 0) 1 8 Try.underlying22 hin hz0 hz1 hz2 rfl (by decide) _ _ _ rfl (hown.alloc _) ⟨W5.heap.size, 0, none⟩ 1 1 [.int .i64 (s : Int)] rfl rfl (cell_one_new _ _ _) (fun u hu => by simp at hu; subst hu; rfl) (by unfold maxLen; omega) (by omega) (by simp; omega) ?_; intro v' w6 hown' hgrow hnil; have q6 : w6.cell? ⟨box, 0, none⟩ = some (.int .i64 (s : Int)) := (World.cell?_of_block (a := ⟨box, 0, none⟩) (hgrow.block box (by rw [alloc_sz]; have := cell_lt q5; simp at this; omega) hne)).trans ((World.cell?_alloc_lt _ _ _ (cell_lt q5)).trans q5))
          have HO6 := Lib.hid (own_snocZ hown')
          have HB6 := Lib.hid (Below.grown (balloc HB5.out (.cells #[.int .i64 (s : Int)] 3)) hgrow (by simp; omega) (fun j hj => (hown.lt j hj).1))
          clear hown' hgrow hnil hown q5
          have hsz8 : W2.heap.size ≤ w6.heap.size := HB6.out.size
          go_wp2_with fail
          refine (pnext_run s 10 (by omega) (by omega) _).mono ?_
          rintro e w9 ⟨rfl, rfl⟩
          have SET8 := Lib.hid (fun (x : Int) => (alloc_at rfl : (w6.alloc (.cells #[.int .i64 x] 3)).heap[w6.heap.size]? = some (.cells #[.int .i64 x] 3 (0, 0))))
          have OWN8 := Lib.hid (fun (x : Int) => HO6.out.alloc (.cells #[.int .i64 x] 3))
          have BEL8 := Lib.hid (fun (x : Int) => balloc HB6.out (.cells #[.int .i64 x] 3))
          rcases Nat.lt_or_ge (nextN 10 s) 1024 with hnx | hnx
          · have HE := Lib.hid (show nextR 10 s = .returned (.tuple #[.int .i64 (nextN 10 s : Int), .bool true]) by
              unfold nextR; rw [if_neg (show ¬ 2 ^ 10 ≤ nextN 10 s by omega), decide_eq_false (show ¬ 2 ^ 10 ≤ nextN 10 s by omega)]; rfl)
            have HKN := Lib.hid (key_next s hs hnx)
            have HKL := Lib.hid (key_lt _ hnx)
            have HNX := Lib.hid ((HSTP.out i s HI.out).1 hnx)
            rw [HE.out]
            generalize nextN 10 s = sn at *
            go_wp2_with fail
            go_roundw
            case rel => exact ⟨i + 1, sn, _, true, (L ++ [s]), _, rfl, rfl, rfl, hnx, hsz8, Lib.hid (SET8.out _), HLX, Lib.hid (OWN8.out _), Lib.hid (fun _ => HNX.out), Lib.hid (fun h => by cases h), Lib.hid (fun j hj => (HO6.out.lt j hj).2), Lib.hid (BEL8.out _)⟩
            case measure =>
              rw [msr_true (s := sn) (cell_of_row _ _ 0 _ _ (0, 0) (SET8.out _)), HMS.out]
              have := HKN.out.1
              have := HKL.out
              omega
          · have HE := Lib.hid (show nextR 10 s = .returned (.tuple #[.int .i64 ((0 : Nat) : Int), .bool false]) by
              unfold nextR; rw [if_pos (show 2 ^ 10 ≤ nextN 10 s by omega), decide_eq_true (show 2 ^ 10 ≤ nextN 10 s by omega)]; rfl)
            have HKL := Lib.hid (key_lt s hs)
            have HEN := Lib.hid (show 1024 ≤ i + 1 from by have := (HSTP.out i s HI.out).2 hnx; omega)
            rw [HE.out]
            go_wp2_with fail
            go_roundw
            case rel => exact ⟨i + 1, 0, _, false, (L ++ [s]), _, rfl, rfl, rfl, by omega, hsz8, Lib.hid (SET8.out 0), HLX, Lib.hid (OWN8.out 0), Lib.hid (fun h => by cases h), Lib.hid (fun _ => HEN.out), Lib.hid (fun j hj => (HO6.out.lt j hj).2), Lib.hid (BEL8.out 0)⟩
            case measure =>
              rw [msr_false, HMS.out]
              have := HKL.out
              omega
        · have HLX := Lib.hid (show L = lfold p ((ordN 10).take (i + 1)) from by rw [HLN.out]; unfold lstep; rw [HPS.out, HQQ.out]; rfl)
          have hsz8 : W2.heap.size ≤ W5.heap.size := HB5.out.size
          go_wp2_with fail
          refine (pnext_run s 10 (by omega) (by omega) _).mono ?_
          rintro e w9 ⟨rfl, rfl⟩
          have SET8 := Lib.hid (fun (x : Int) => (alloc_at rfl : (W5.alloc (.cells #[.int .i64 x] 3)).heap[W5.heap.size]? = some (.cells #[.int .i64 x] 3 (0, 0))))
          have OWN8 := Lib.hid (fun (x : Int) => HO5.out.alloc (.cells #[.int .i64 x] 3))
          have BEL8 := Lib.hid (fun (x : Int) => balloc HB5.out (.cells #[.int .i64 x] 3))
          rcases Nat.lt_or_ge (nextN 10 s) 1024 with hnx | hnx
          · have HE := Lib.hid (show nextR 10 s = .returned (.tuple #[.int .i64 (nextN 10 s : Int), .bool true]) by
              unfold nextR; rw [if_neg (show ¬ 2 ^ 10 ≤ nextN 10 s by omega), decide_eq_false (show ¬ 2 ^ 10 ≤ nextN 10 s by omega)]; rfl)
            have HKN := Lib.hid (key_next s hs hnx)
            have HKL := Lib.hid (key_lt _ hnx)
            have HNX := Lib.hid ((HSTP.out i s HI.out).1 hnx)
            rw [HE.out]
            generalize nextN 10 s = sn at *
            go_wp2_with fail
            go_roundw
            case rel => exact ⟨i + 1, sn, _, true, L, _, rfl, rfl, rfl, hnx, hsz8, Lib.hid (SET8.out _), HLX, Lib.hid (OWN8.out _), Lib.hid (fun _ => HNX.out), Lib.hid (fun h => by cases h), Lib.hid (fun j hj => (HO5.out.lt j hj).2), Lib.hid (BEL8.out _)⟩
            case measure =>
              rw [msr_true (s := sn) (cell_of_row _ _ 0 _ _ (0, 0) (SET8.out _)), HMS.out]
              have := HKN.out.1
              have := HKL.out
              omega
          · have HE := Lib.hid (show nextR 10 s = .returned (.tuple #[.int .i64 ((0 : Nat) : Int), .bool false]) by
              unfold nextR; rw [if_pos (show 2 ^ 10 ≤ nextN 10 s by omega), decide_eq_true (show 2 ^ 10 ≤ nextN 10 s by omega)]; rfl)
            have HKL := Lib.hid (key_lt s hs)
            have HEN := Lib.hid (show 1024 ≤ i + 1 from by have := (HSTP.out i s HI.out).2 hnx; omega)
            rw [HE.out]
            go_wp2_with fail
            go_roundw
            case rel => exact ⟨i + 1, 0, _, false, L, _, rfl, rfl, rfl, by omega, hsz8, Lib.hid (SET8.out 0), HLX, Lib.hid (OWN8.out 0), Lib.hid (fun h => by cases h), Lib.hid (fun _ => HEN.out), Lib.hid (fun j hj => (HO5.out.lt j hj).2), Lib.hid (BEL8.out 0)⟩
            case measure =>
              rw [msr_false, HMS.out]
              have := HKL.out
              omega
end Go.Proofs.Ytnfdacfhhkahhaa
