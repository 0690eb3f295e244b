/- The walk of BallotsGreatest: the greatest ballot of a list is one of it, none is greater, and its order does not matter. -/
import Derived.Test.YtolodegbilagbaaGreatest
import Derived.WalkSmall
import Derived.Deep.RegionHeld3
import Derived.Deep.DeepCutAuto
import Derived.Deep.CutRange
namespace Go.Proofs.Ytolodegbilagbaa
set_option linter.unusedVariables false
open Go.RowKit

theorem flatB_snoc (L : List (Int × Nat)) (c : Int) (i : Nat) : flatB L ++ [Value.int .i64 c, Value.string (valOf i)] = flatB (L ++ [(c, i)]) := by rw [flatB_append]; rfl
theorem own_snoc {w : World} {v : Value} {B : Nat} {L : List (Int × Nat)} {c : Int} {i : Nat} (h : w.ownsRow B 52 2 v (L.length + 1) (flatB L ++ [Value.int .i64 c, Value.string (valOf i)])) :
    w.ownsRow B 52 2 v (L ++ [(c, i)]).length (flatB (L ++ [(c, i)])) := by
  rw [flatB_snoc] at h
  simpa using h
theorem drop_rev {L : List (Int × Nat)} {j : Nat} {b : Int × Nat} (h : L[j]? = some b) : (L.drop j).reverse = (L.drop (j + 1)).reverse ++ [b] := by
  obtain ⟨hj, rfl⟩ := List.getElem?_eq_some_iff.1 h
  rw [List.drop_eq_getElem_cons hj]
  simp
theorem SrcOk.upto {w w' : World} {sb : Nat} (h : SrcOk w sb) (hk : ∀ k, k ≤ sb → w'.heap[k]? = w.heap[k]?) : SrcOk w' sb := by
  obtain ⟨a, len, cap, at_, hb, h1, h2, h3, h4⟩ := h
  refine ⟨a, len, cap, at_, (hk _ (Nat.le_refl _)).trans hb, h1, h2, h3, fun i hi => ?_⟩
  obtain ⟨b, off, z, e1, e2, e3, e4⟩ := h4 i hi
  exact ⟨b, off, z, e1, e2, (World.cell?_of_block (hk b (by omega))).trans e3, e4⟩
theorem goodL_snoc {L : List (Int × Nat)} {c : Int} {i : Nat} (h : GoodL L) (h1 : 1 ≤ c) (h2 : c ≤ 1000000) (h3 : 1 ≤ i) (h4 : i ≤ 4) : GoodL (L ++ [(c, i)]) := by
  intro b hb
  rcases List.mem_append.1 hb with hb | hb
  · exact h b hb
  · rw [List.mem_singleton] at hb; subst hb; exact ⟨h1, h2, h3, h4⟩
/-- What the last region keeps. -/
theorem keepG {w W w1 : World} {g : Nat} {c : Int} {i : Nat} {v : Value} {L : List (Int × Nat)}
    (h : W.cell? ⟨g, 0, none⟩ = some (.int .i64 c) ∧ W.cell? ⟨g, 1, none⟩ = some (.string (valOf i)) ∧ BalAt W g c i ∧ ListAt W v L ∧ Below w.heap.size w W) (hb : Below W.heap.size W w1) :
    w1.cell? ⟨g, 0, none⟩ = some (.int .i64 c) ∧ w1.cell? ⟨g, 1, none⟩ = some (.string (valOf i)) ∧ BalAt w1 g c i ∧ ListAt w1 v L ∧ Below w.heap.size w w1 := by
  obtain ⟨_, _, h1, h2, h4⟩ := h
  have k1 := h1.below hb
  exact ⟨k1.cs.1, k1.cs.2, k1, h2.below hb, bstep h4 hb⟩

theorem listS {w W : World} {g : Nat} {c : Int} {i : Nat} {v : Value} {L : List (Int × Nat)}
    (h : W.cell? ⟨g, 0, none⟩ = some (.int .i64 c) ∧ W.cell? ⟨g, 1, none⟩ = some (.string (valOf i)) ∧ BalAt W g c i ∧ ListAt W v L ∧ Below w.heap.size w W) : ListAt W v L := h.2.2.2.1

set_option maxHeartbeats 4000000 in
theorem walkBallotsGreatest (a0 : Option Addr) (len0 cap0 : Nat) (z0 : List Int) (w : World) (w0 : IsRow .i64 w a0 len0 cap0 z0) :
    Calls Try.prog 8 #[.slice a0 len0 cap0] w fun e w' => e = .returned (.bool true) ∧ Below w.heap.size w w' := by
  obtain ⟨i0, hi, hz0, hz1, hz2⟩ := info_parts infoBal
  have HR := Lib.hid w0
  clear w0
  go_enter Try.func8, Try.ntmps8
  go_wp2_with fail
  refine (New_run _ _ _ _ _ HR.out).mono ?_
  rintro e v0 ⟨rfl, hs0, hb0⟩
  have HS0 := Lib.hid hs0
  clear hs0
  go_wp2_with fail
  refine (N_run _ _ _ (by omega) (by omega) HS0.out).mono ?_
  rintro e v1 ⟨r, hr0, hr1, rfl, hs1, hg1⟩
  obtain ⟨m, rfl⟩ := Int.eq_ofNat_of_zero_le hr0
  have HB1 := Lib.hid (bgrown hb0 hg1 (Nat.le_refl _))
  have HS1 := Lib.hid hs1
  clear hs1 hg1 hb0
  have hm7 : m < 7 := by omega
  clear hr0 hr1
  go_wp2_with fail
  go_loopw [4, 6] (fun v t wr => ∃ (k : Nat) (L : List (Int × Nat)), k ≤ m ∧ t = .int .i64 k ∧ Hid (L.length + k = m) ∧ Hid (GoodL L) ∧ Hid (SrcOk wr w.heap.size) ∧ wr.ownsRow (w.heap.size + 1) 52 2 v L.length (flatB L) ∧ Hid (Below w.heap.size w wr)) (fun _ t _ => (intOf t).toNat)
  case atStart => exact ⟨m, [], Nat.le_refl _, rfl, Lib.hid (by simp), Lib.hid (by intro b hb; simp at hb), HS1, World.ownsRow_nil _ _ _ _, HB1⟩
  case round =>
    obtain ⟨k, L, hk, rfl, hL, hG, hS, hown, hb⟩ := hrel
    have hbz := hb.out.size
    have hsl := hS.out.lt
    by_cases hlt : 0 < k
    · go_wp2_with fail
      refine (Ballot_run _ _ hS.out).mono ?_
      rintro e W2 ⟨c, i, hc0, hc1, hc2, hi0', hi1', rfl, hs2, hg2⟩
      have hown2 := hown.kept hg2 (.inr (fun e => by have := (hown.lt _ e).1; omega))
      have hb2 := Lib.hid (bgrown hb.out hg2 (Nat.le_refl _))
      have hb2z := hb2.out.size
      have HS2 := Lib.hid hs2
      have hsl2 := hs2.lt
      have hLl : L.length ≤ 7 := by have := hL.out; omega
      clear hown hg2 hs2
      go_wp2_with (at_builtin; refine wpList_append_own _ rfl _ _ 49 rfl (w.heap.size + 1) 52 i0 (.agg #[.int .i64 0, .string ⟨#[]⟩]) 2 24 Try.underlying49 hi hz0 hz1 hz2 rfl (by decide) _ _ _ rfl (hown2.alloc _) ⟨W2.heap.size, 0, none⟩ 1 1 [.int .i64 c, .string (valOf i)] rfl rfl (cell_two_new _ _ _ _) (fun u hu => by simp at hu; rcases hu with rfl | rfl <;> rfl) (by unfold maxLen; omega) (by omega) (by simp; omega) ?_; intro v' w1 hown' hgrow hnil)
      have HO := Lib.hid (own_snoc hown')
      have hb3 := Lib.hid (Below.grown (balloc hb2.out (.cells #[.int .i64 c, .string (valOf i)] 52)) hgrow (by simp; omega) (fun j hj => by have := (hown2.lt j hj).1; omega))
      have HS3 := Lib.hid ((HS2.out.alloc (.cells #[.int .i64 c, .string (valOf i)] 52)).upto (fun k hk => hgrow.block k (by simp; omega) (fun e => by have := (hown2.lt k e.symm).1; omega)))
      clear hown' hgrow hnil hown2
      go_wp2_with fail
      go_roundw
      case rel => exact ⟨k - 1, L ++ [(c, i)], by omega, by go_num, Lib.hid (by have := hL.out; simp; omega), Lib.hid (goodL_snoc hG.out hc0 hc1 hi0' hi1'), HS3, HO.out, hb3⟩
      case measure => simp [intOf]; omega
    · obtain rfl : k = 0 := by omega
      have hLm : L.length = m := hL.out
      subst hLm
      have HG := hG
      have HLA := Lib.hid (ListAt.of_own hown (by omega))
      obtain ⟨A, cA, rfl, _, h3⟩ := HLA.out
      have H3 := Lib.hid h3
      have HB := hb
      have hwz : w.heap.size ≤ wr.heap.size := hbz
      clear h3 hown hS hL hG hb hsl hlt hk hbz HS1 HB1
      obtain ⟨v2, hv2⟩ : ∃ x, x = wr := ⟨_, rfl⟩
      subst hv2
      go_wp2_with fail
      go_loopw [5, 7] (fun v t wr => ∃ (j : Nat), j ≤ L.length ∧ t = .int .i64 ((j : Int) - 1) ∧ wr.ownsRow v2.heap.size 52 2 v (L.drop j).reverse.length (flatB (L.drop j).reverse) ∧ Hid (Below v2.heap.size v2 wr)) (fun _ t _ => (intOf t + 1).toNat)
      case atStart => exact ⟨L.length, Nat.le_refl _, rfl, by simp only [List.drop_length]; exact World.ownsRow_nil _ _ _ _, Lib.hid (bref _)⟩
      case round =>
        obtain ⟨j, hj, rfl, hown, hb⟩ := hrel
        have hbz := hb.out.size
        rcases j with _ | j
        · simp only [List.drop_zero] at hown
          have HLB0 := ListAt.of_own hown (by simp; omega)
          obtain ⟨A2, cA2, rfl, _, _⟩ := id HLB0
          rw [List.length_reverse] at HLB0
          have HLB := Lib.hid HLB0
          clear HLB0
          have HLA2 := Lib.hid (HLA.out.below hb.out)
          have HB2 := Lib.hid (bstep HB.out (hb.out))
          have hG4 : ∀ b ∈ L, b.2 ≤ 4 := fun b hb => (HG.out b hb).2.2.2
          have HG4 := Lib.hid hG4
          obtain ⟨v3, hv3⟩ : ∃ x, x = wr := ⟨_, rfl⟩
          subst hv3
          clear hown HLA H3 HB hb hbz hG4
          go_wp2_with fail
          refine (greatest_run L _ _ HG4.out HLA2.out).mono ?_
          rintro e v4 ⟨rfl, hb4⟩
          have HLA4 := Lib.hid (HLA2.out.below hb4)
          have HLB4 := Lib.hid (HLB.out.below hb4)
          have HB4 := Lib.hid (bstep HB2.out hb4)
          clear HLA2 HLB HB2 hb4
          obtain ⟨G, hGG⟩ : ∃ G, G = grL L := ⟨_, rfl⟩
          rw [← hGG]
          have HGG := Lib.hid hGG
          clear hGG
          go_upto_region 12 with fail
          have HM5 := Lib.hid (BalAt.new v4 G.1 G.2)
          have HLA5 := Lib.hid (HLA4.out.below (balloc (bref _) (.cells #[.int .i64 G.1, .string (valOf G.2)] 52)))
          have HLB5 := Lib.hid (HLB4.out.below (balloc (bref _) (.cells #[.int .i64 G.1, .string (valOf G.2)] 52)))
          have HB5 := Lib.hid (balloc HB4.out (.cells #[.int .i64 G.1, .string (valOf G.2)] 52))
          have hv4 : w.heap.size ≤ v4.heap.size := HB4.out.size
          clear HLA4 HLB4 HB4
          generalize v4.heap.size = g at *
          generalize v4.alloc (.cells #[.int .i64 G.1, .string (valOf G.2)] 52) = v5 at *
          obtain ⟨m0, m1⟩ := HM5.out.cs
          go_cut [9] (fun x W => ∃ f : Bool, x = .bool f ∧ Hid (f = decide (L = [])) ∧ Hid (BalAt W g G.1 G.2) ∧ Hid (ListAt W (.slice A L.length cA) L) ∧ Hid (ListAt W (.slice A2 L.length cA2) L.reverse) ∧ Hid (Below w.heap.size w W))
          case first =>
            by_cases hL0 : L = []
            · have hlen : ((L.length : Int) == 0) = true := by rw [hL0]; rfl
              have hG0 : G = (0, 0) := by rw [HGG.out, hL0]; rfl
              have hGa : G.1 = 0 := by rw [hG0]
              have hGb : G.2 = 0 := by rw [hG0]
              have hZ : zeroB 0 0 = true := by decide
              have HF := Lib.hid (show true = decide (L = []) by simp [hL0])
              rw [hGa] at m0
              rw [hGb] at m1
              clear hG0 hL0
              go_wp2_with fail
              refine (zero_run 0 0 _ (by omega)).mono ?_
              rintro e v6 ⟨rfl, hb6⟩
              rw [hZ]
              go_wp2_with fail
              go_meet
              exact ⟨_, rfl, HF, Lib.hid (HM5.out.below hb6), Lib.hid (HLA5.out.below hb6), Lib.hid (HLB5.out.below hb6), Lib.hid (bstep HB5.out hb6)⟩
            · have hlen : ((L.length : Int) == 0) = false := by
                have : L.length ≠ 0 := fun h => hL0 (List.eq_nil_of_length_eq_zero h)
                simp; omega
              have HF := Lib.hid (show false = decide (L = []) by simp [hL0])
              clear hL0
              go_wp2_with fail
              go_meet
              exact ⟨_, rfl, HF, HM5, HLA5, HLB5, HB5⟩
          case rest =>
            obtain ⟨f, rfl, HF, HM6, HLA6, HLB6, HB6⟩ := hcut
            clear HM5 HLA5 HLB5 HB5 m0 m1
            go_wp2_with fail
            go_loopw [9, 50] (fun x t wr => ∃ (k : Nat) (f : Bool), k ≤ L.length ∧ t = .int .i64 k ∧ x = .bool f ∧ Hid (f = true ↔ L = [] ∨ grL L ∈ L.take k) ∧ Hid (BalAt wr g G.1 G.2) ∧ Hid (ListAt wr (.slice A L.length cA) L) ∧ Hid (ListAt wr (.slice A2 L.length cA2) L.reverse) ∧ Hid (Below w.heap.size w wr)) (fun _ t _ => L.length - (intOf t).toNat)
            case atStart => exact ⟨0, f, by omega, rfl, rfl, Lib.hid (by rw [HF.out]; simp), HM6, HLA6, HLB6, HB6⟩
            case round =>
              obtain ⟨k, f, hk, rfl, rfl, hF, hM, hLA, hLB, hB⟩ := hrel
              by_cases hlt : k < L.length
              · obtain ⟨b, hbk⟩ : ∃ b, L[k]? = some b := ⟨_, List.getElem?_eq_getElem (by omega)⟩
                obtain ⟨Ax, cx, hAx, _, h3⟩ := hLA.out
                obtain ⟨gl, off, rfl, c0, c1⟩ := h3 k b hbk
                obtain ⟨rfl, _, rfl⟩ : A = some ⟨gl, off, none⟩ ∧ L.length = L.length ∧ cA = cx := by simpa using hAx
                have hgl := cell_lt c0
                simp only at hgl
                have hml := hM.out.lt
                obtain ⟨q0, q1⟩ := hM.out.cs
                have hbm : b ∈ L := List.mem_of_getElem? hbk
                have hb4 : b.2 ≤ 4 := HG4.out b hbm
                have hG4' : G.2 ≤ 4 := by rw [HGG.out]; exact HG4.out _ (grL_mem (by intro e; rw [e] at hbm; simp at hbm))
                have hno : lessB G.1 G.2 b.1 b.2 = false := by rw [HGG.out]; exact grL_max b hbm
                have HN := Lib.hid (show (f || decide (b = G)) = true ↔ L = [] ∨ grL L ∈ L.take (k + 1) by
                  rw [List.take_add_one, hbk, Bool.or_eq_true, hF.out]
                  simp [HGG.out, or_assoc, eq_comm])
                have ki : (k : Int) < (L.length : Int) := by omega
                have hX := Lib.hid (BalAt.new wr b.1 b.2)
                have hM1 := Lib.hid (hM.out.alloc (.cells #[.int .i64 b.1, .string (valOf b.2)] 52))
                have hA1 := Lib.hid (hLA.out.below (balloc (bref _) (.cells #[.int .i64 b.1, .string (valOf b.2)] 52)))
                have hLB1 := Lib.hid (hLB.out.below (balloc (bref _) (.cells #[.int .i64 b.1, .string (valOf b.2)] 52)))
                have hB1 := Lib.hid (balloc hB.out (.cells #[.int .i64 b.1, .string (valOf b.2)] 52))
                have three : b = G ∨ ¬ b.1 = G.1 ∨ (b.1 = G.1 ∧ ¬ b.2 = G.2) := by
                  by_cases h1 : b.1 = G.1
                  · by_cases h2 : b.2 = G.2
                    · exact .inl (Prod.ext h1 h2)
                    · exact .inr (.inr ⟨h1, h2⟩)
                  · exact .inr (.inl h1)
                clear hbk hbm h3 hAx hF
                cases f
                · rcases three with h | h | ⟨h, h'⟩
                  · have HN2 := Lib.hid (show true = true ↔ L = [] ∨ grL L ∈ L.take (k + 1) by rw [← HN.out, h]; simp)
                    have hcd : (b.1 == G.1) = true := by rw [h]; simp
                    have hst : ((valOf b.2).toList == (valOf G.2).toList) = true := by rw [h]; simp
                    have hst2 : (valOf b.2).toList = (valOf G.2).toList := by rw [h]
                    clear h
                    go_wp2_with fail
                    refine (less_run _ _ _ _ _ hG4' hb4).mono ?_
                    rintro e W2 ⟨rfl, hb2⟩
                    have hM2 := Lib.hid (hM1.out.below hb2)
                    have hA2 := Lib.hid (hA1.out.below hb2)
                    have hLB2 := Lib.hid (hLB1.out.below hb2)
                    have hB2 := Lib.hid (bstep hB1.out hb2)
                    rw [hno]
                    clear hb2
                    go_wp2_with fail
                    go_roundw
                    case rel => exact ⟨k + 1, _, by omega, by go_num, rfl, Lib.hid (by first | exact HN2.out | simpa using HN2.out), hM2, hA2, hLB2, hB2⟩
                    case measure => simp [intOf]; try omega
                  · have HN2 := Lib.hid (show false = true ↔ L = [] ∨ grL L ∈ L.take (k + 1) by rw [← HN.out]; simp; intro e; rw [e] at h; exact h rfl)
                    have hcd : (b.1 == G.1) = false := by simpa using h
                    clear h
                    go_wp2_with fail
                    refine (less_run _ _ _ _ _ hG4' hb4).mono ?_
                    rintro e W2 ⟨rfl, hb2⟩
                    have hM2 := Lib.hid (hM1.out.below hb2)
                    have hA2 := Lib.hid (hA1.out.below hb2)
                    have hLB2 := Lib.hid (hLB1.out.below hb2)
                    have hB2 := Lib.hid (bstep hB1.out hb2)
                    rw [hno]
                    clear hb2
                    go_wp2_with fail
                    go_roundw
                    case rel => exact ⟨k + 1, _, by omega, by go_num, rfl, Lib.hid (by first | exact HN2.out | simpa using HN2.out), hM2, hA2, hLB2, hB2⟩
                    case measure => simp [intOf]; try omega
                  · have HN2 := Lib.hid (show false = true ↔ L = [] ∨ grL L ∈ L.take (k + 1) by rw [← HN.out]; simp; intro e; rw [e] at h'; exact h' rfl)
                    have hcd : (b.1 == G.1) = true := by simpa using h
                    have hst : ((valOf b.2).toList == (valOf G.2).toList) = false := by rw [valOf_eqL hb4 hG4']; simpa using h'
                    have hst2 : ¬ (valOf b.2).toList = (valOf G.2).toList := by simpa using hst
                    clear h h'
                    go_wp2_with fail
                    refine (less_run _ _ _ _ _ hG4' hb4).mono ?_
                    rintro e W2 ⟨rfl, hb2⟩
                    have hM2 := Lib.hid (hM1.out.below hb2)
                    have hA2 := Lib.hid (hA1.out.below hb2)
                    have hLB2 := Lib.hid (hLB1.out.below hb2)
                    have hB2 := Lib.hid (bstep hB1.out hb2)
                    rw [hno]
                    clear hb2
                    go_wp2_with fail
                    go_roundw
                    case rel => exact ⟨k + 1, _, by omega, by go_num, rfl, Lib.hid (by first | exact HN2.out | simpa using HN2.out), hM2, hA2, hLB2, hB2⟩
                    case measure => simp [intOf]; try omega
                · have HN2 := Lib.hid (show true = true ↔ L = [] ∨ grL L ∈ L.take (k + 1) by rw [← HN.out]; simp)
                  go_wp2_with fail
                  refine (less_run _ _ _ _ _ hG4' hb4).mono ?_
                  rintro e W2 ⟨rfl, hb2⟩
                  have hM2 := Lib.hid (hM1.out.below hb2)
                  have hA2 := Lib.hid (hA1.out.below hb2)
                  have hLB2 := Lib.hid (hLB1.out.below hb2)
                  have hB2 := Lib.hid (bstep hB1.out hb2)
                  rw [hno]
                  clear hb2
                  go_wp2_with fail
                  go_roundw
                  case rel => exact ⟨k + 1, _, by omega, by go_num, rfl, Lib.hid (by first | exact HN2.out | simpa using HN2.out), hM2, hA2, hLB2, hB2⟩
                  case measure => simp [intOf]; try omega
              · obtain rfl : k = L.length := by omega
                have hf : f = true := by
                  rw [hF.out]
                  by_cases hL0 : L = []
                  · exact .inl hL0
                  · right; rw [List.take_length]; exact grL_mem hL0
                subst hf
                clear hF hlt hk
                go_upto_region 20 with fail
                obtain ⟨m0, m1⟩ := hM.out.cs
                have hS6 := Lib.hid (show wr.drew.cell? ⟨g, 0, none⟩ = some (.int .i64 G.1) ∧ wr.drew.cell? ⟨g, 1, none⟩ = some (.string (valOf G.2)) ∧ BalAt wr.drew g G.1 G.2 ∧ ListAt wr.drew (.slice A2 L.length cA2) L.reverse ∧ Below w.heap.size w wr.drew from ⟨m0, m1, hM.out, hLB.out, bdrew hB.out⟩)
                have HR4 := Lib.hid (show ∀ b ∈ L.reverse, b.2 ≤ 4 from fun b hb => HG4.out b (List.mem_reverse.1 hb))
                have HRG := Lib.hid (show grL L.reverse = G from (grL_reverse L).trans HGG.out.symm)
                clear hM hLA hLB hB m0 m1
                go_region_held3 (fun W => W.cell? ⟨g, 0, none⟩ = some (.int .i64 G.1) ∧ W.cell? ⟨g, 1, none⟩ = some (.string (valOf G.2)) ∧ BalAt W g G.1 G.2 ∧ ListAt W (.slice A2 L.length cA2) L.reverse ∧ Below w.heap.size w W) (first | exact hS6.out | exact keepG (by assumption) hbK | go_keep)
                  (first
                    | (go_at_call 44; refine (greatest_run L.reverse _ _ (by exact HR4.out) (by exact listS (by assumption))).mono ?_; rintro e WK ⟨rfl, hbK⟩; rw [HRG.out])
                    | (go_at_call 47; refine (sane23 _).mono ?_; rintro e WK ⟨rfl, hbK⟩))
                all_goals
                  have hF : WK.cell? ⟨g, 0, none⟩ = some (.int .i64 G.1) ∧ WK.cell? ⟨g, 1, none⟩ = some (.string (valOf G.2)) ∧ BalAt WK g G.1 G.2 ∧ ListAt WK (.slice A2 L.length cA2) L.reverse ∧ Below w.heap.size w WK := by assumption
                  go_wp2_with fail
                  go_ret
                  exact ⟨rfl, hF.2.2.2.2⟩
        · rw [show (((j + 1 : Nat) : Int) - 1) = (j : Int) by omega]
          obtain ⟨b, hbj⟩ : ∃ b, L[j]? = some b := ⟨_, List.getElem?_eq_getElem (by omega)⟩
          obtain ⟨g, off, rfl, c0, c1⟩ := H3.out j b hbj
          have hgl : g < v2.heap.size := cell_lt c0
          have d0 : wr.cell? ⟨g, off + j * 2, none⟩ = some (.int .i64 b.1) := (hb.out.cell (p := ⟨g, off + j * 2, none⟩) hgl).trans c0
          have d1 : wr.cell? ⟨g, off + j * 2 + 1, none⟩ = some (.string (valOf b.2)) := (hb.out.cell (p := ⟨g, off + j * 2 + 1, none⟩) hgl).trans c1
          have HDR := Lib.hid (drop_rev hbj)
          have j0 : (0 : Int) ≤ (j : Int) := by omega
          have j1 : (j : Int) < (L.length : Int) := by omega
          have hLl : ((L.drop (j + 1)).reverse).length ≤ 7 := by simp; omega
          clear c0 c1 hbj
          go_wp2_with (at_builtin; refine wpList_append_own _ rfl _ _ 49 rfl v2.heap.size 52 i0 (.agg #[.int .i64 0, .string ⟨#[]⟩]) 2 24 Try.underlying49 hi hz0 hz1 hz2 rfl (by decide) _ _ _ rfl (hown.alloc _) ⟨wr.heap.size, 0, none⟩ 1 1 [.int .i64 b.1, .string (valOf b.2)] rfl rfl (cell_two_new _ _ _ _) (fun u hu => by simp at hu; rcases hu with rfl | rfl <;> rfl) (by unfold maxLen; omega) (by omega) (by simp; omega) ?_; intro v' w1 hown' hgrow hnil)
          have HO := Lib.hid (own_snoc hown')
          have hb3 := Lib.hid (Below.grown (balloc hb.out (.cells #[.int .i64 b.1, .string (valOf b.2)] 52)) hgrow (by simp; omega) (fun j hj => (hown.lt j hj).1))
          clear hown' hgrow hnil hown
          go_wp2_with fail
          go_roundw
          case rel => (repeat apply Exists.intro); exact ⟨⟨j, by omega, rfl, by rw [HDR.out]; exact HO.out, hb3⟩, rfl⟩
          case measure => simp [intOf]; try omega
end Go.Proofs.Ytolodegbilagbaa
