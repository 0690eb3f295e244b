/- The walk of CatchupTrusts: what is trusted is said by nodes that satisfy the trust. -/
import Derived.Test.YtoceogdpkfcghaaDoorSane42
import Derived.Test.YtoceogdpkfcghaaDoorSTrust
import Derived.Test.YtoceogdpkfcghaaDoorRefSatL
namespace Go.Proofs.YtoceogdpkfcghaaDoor
set_option linter.unusedVariables false
set_option linter.unusedSimpArgs false
open Go.RowKit

theorem infoU : (Tryd.prog.info? 30).map (fun i => (i.zero, i.size, i.bytes)) = some (some (.int .u64 0), 1, 8) := by kernel_rfl
theorem measC (i N : Nat) (h : i < N) : N - (intOf (Value.int .i64 ((i : Int) + 1))).toNat < N - (intOf (Value.int .i64 (i : Int))).toNat := by simp [intOf]; omega
theorem numC (i : Nat) : Value.int .i64 ((i : Int) + 1) = Value.int .i64 ((i + 1 : Nat) : Int) := rfl
/-- The world of the law: its source, and the box of its trust. -/
structure CtW (T : Tree) (w : World) (g : Nat) (t : Int) (v1 v2 : Value) (W : World) : Prop where
  src : SrcOk W w.heap.size
  out : OutAt W g t v1 v2
  mem : TAt (fun b => w.heap.size < b ∧ b < g) 2 W (.int .i64 t) v1 v2 T
  low : w.heap.size < g
  below : Below w.heap.size w W
theorem CtW.bel {T : Tree} {w W W' : World} {g : Nat} {t : Int} {v1 v2 : Value} (h : CtW T w g t v1 v2 W) (hb : Below W.heap.size W W') : CtW T w g t v1 v2 W' :=
  ⟨h.src.below hb, h.out.keep (hb.block _ h.out.lt), h.mem.below hb, h.low, bstep h.below hb⟩
theorem CtW.grown {T : Tree} {w W W' : World} {g : Nat} {t : Int} {v1 v2 : Value} (h : CtW T w g t v1 v2 W) (hs : SrcOk W' w.heap.size) (hg : W.grownBy W' (some w.heap.size)) : CtW T w g t v1 v2 W' :=
  ⟨hs, h.out.keep (hg.block _ h.out.lt (by have := h.low; simp; omega)), h.mem.keep (fun j hj hP => hg.block j hj (by have := hP.1; simp; omega)), h.low, Below.grown h.below hg h.below.size (fun j hj => by cases hj; exact Nat.le_refl _)⟩
theorem nine {T : Tree} {b : Int} (h : FoundOk 2 T [9, 9, 9, 9, 9] 5 (fun _ => false) b) : (b = 9 ∧ satB 2 T 31 = true) ∨ (b = 0 ∧ satB 2 T 31 = false) := by
  have hs : sayN [9, 9, 9, 9, 9] 9 5 = 31 := by decide +kernel
  have h9 := h.least 9 (by omega) ⟨0, by omega, rfl⟩ rfl
  rw [hs] at h9
  rcases h.good with h0 | ⟨⟨i, hi, hb⟩, hsat⟩
  · right
    refine ⟨h0, ?_⟩
    cases hc : satB 2 T 31
    · rfl
    · exact absurd h0 (h9 hc).1
  · left
    have hb9 : b = 9 := by
      match i, hi with
      | 0, _ | 1, _ | 2, _ | 3, _ | 4, _ => exact hb.symm
    subst hb9
    rw [hs] at hsat
    exact ⟨rfl, hsat⟩

set_option maxRecDepth 100000 in
set_option maxHeartbeats 4000000 in
theorem walkCatchupTrusts (a0 : Option Addr) (len0 cap0 : Nat) (z0 : List Int) (w : World) (w0 : IsRow .i64 w a0 len0 cap0 z0) :
    Calls Tryd.prog 3 #[.slice a0 len0 cap0] w fun e w' => e = .returned (.bool true) ∧ Below w.heap.size w w' := by
  obtain ⟨iu, hiu, hu0, hu1, hu2⟩ := info_parts infoU
  have HR := Lib.hid w0
  clear w0
  go_enter Tryd.func3, Tryd.ntmps3
  go_wp2_with fail
  refine (New_run _ _ _ _ _ HR.out).mono ?_
  rintro e u0 ⟨rfl, hs0, hb0⟩
  have HS0 := Lib.hid hs0
  have HB0 := Lib.hid hb0
  have hlz := hs0.lt
  clear hs0 hb0
  go_wp2_with fail
  refine (strust_run 5 (by omega) (by omega) _ _ HS0.out).mono ?_
  rintro e u1 ⟨t, A1, A2, n1, k1, n2, k2, T, rfl, hT, hfine, hs1, hg1⟩
  have hba := balloc (bref u1) (.cells #[.int .i64 t, .slice A1 n1 k1, .slice A2 n2 k2] 27)
  have HC := Lib.hid (show CtW T w u1.heap.size t (.slice A1 n1 k1) (.slice A2 n2 k2) (u1.alloc (.cells #[.int .i64 t, .slice A1 n1 k1, .slice A2 n2 k2] 27)) from
    ⟨hs1.below hba, alloc_at rfl, (hT.imp (Q := fun b => w.heap.size < b ∧ b < u1.heap.size) (fun j hj hP => ⟨by omega, hj⟩)).below hba, hs1.lt, bstep (Below.grown HB0.out hg1 HB0.out.size (fun j hj => by cases hj; exact Nat.le_refl _)) hba⟩)
  clear hT hfine hs1 hg1 hba HS0 HB0 HR
  go_upto_region 3 with fail
  generalize u1.alloc (.cells #[.int .i64 t, .slice A1 n1 k1, .slice A2 n2 k2] 27) = W1 at *
  generalize u1.heap.size = g at *
  have hgl := HC.out.out.lt
  go_wp2_with fail
  go_loopw [5, 6] (fun v x W => ∃ (k : Nat) (L : List Int) (vv : Value), k ≤ 5 ∧ v = vv ∧ x = .int .i64 k ∧ W.ownsRow (g + 1) 30 1 vv L.length (L.map (Value.int .u64)) ∧ Hid (L.length = k ∧ ∀ z ∈ L, 0 ≤ z ∧ z ≤ 18446744073709551615) ∧ Hid (CtW T w g t (.slice A1 n1 k1) (.slice A2 n2 k2) W)) (fun _ x _ => 5 - (intOf x).toNat)
  case atStart => exact ⟨0, [], .slice none 0 0, by omega, rfl, rfl, World.ownsRow_nil _ _ _ _, Lib.hid ⟨rfl, fun z hz => by cases hz⟩, HC⟩
  case round =>
    obtain ⟨k, L, vv, hk, hv, rfl, hown, hL, hW⟩ := hrel
    replace hv := hv.symm
    subst hv
    have hgw := hW.out.out.lt
    have hlow := hW.out.low
    have hll : L.length ≤ 5 := by rw [hL.out.1]; exact hk
    by_cases hlt : k < 5
    · go_wp2_with fail
      refine (N_run _ _ _ (by omega) (by omega) hW.out.src).mono ?_
      rintro e w2 ⟨r, hr0, hr1, rfl, hs2, hg2⟩
      have HW2 := Lib.hid (hW.out.grown hs2 hg2)
      have hown2 := hown.kept hg2 (own_below hown (by omega))
      have hcv : IntKind.u64.wrap r = r := IntWalk.u64_in _ (by omega)
      have hz2 := hg2.size
      clear hown hs2 hg2
      go_wp2_with (at_builtin; refine wpList_append_own _ rfl _ _ 29 rfl (g + 1) 30 iu (.int .u64 0) 1 8 Tryd.underlying29 hiu hu0 hu1 hu2 rfl (by decide) _ _ _ rfl (hown2.alloc _) ⟨w2.heap.size, 0, none⟩ 1 1 [.int .u64 r] rfl rfl (cell_one_new _ _ _) (fun u hu => by simp at hu; subst hu; rfl) (by unfold maxLen; omega) (by omega) (by simp; omega) ?_; intro v' w3 hown3 hgrow hnil)
      have HO3 := Lib.hid (show w3.ownsRow (g + 1) 30 1 v' (L ++ [r]).length ((L ++ [r]).map (Value.int .u64)) by rw [List.map_append, List.length_append]; exact hown3)
      have HW3 := Lib.hid (show CtW T w g t (.slice A1 n1 k1) (.slice A2 n2 k2) w3 from by
        have h2 := HW2.out.bel (balloc (bref w2) (.cells #[.int .u64 r] 30))
        have hne : ∀ j, j ≤ g → vv.ownBlock ≠ some j := fun j hj e => by have := (hown2.lt j e).1; omega
        have hz : g < (w2.alloc (.cells #[.int .u64 r] 30)).heap.size := h2.out.lt
        exact ⟨h2.src.low (fun j hj => hgrow.block j (by omega) (hne j (by omega)).symm), h2.out.keep (hgrow.block _ hz (hne g (by omega)).symm), h2.mem.keep (fun j hj hP => hgrow.block j hj (hne j (by have := hP.2; omega)).symm), h2.low, Below.grown h2.below hgrow h2.below.size (fun j hj => by have := (hown2.lt j hj).1; omega)⟩)
      have HL3 := Lib.hid (show (L ++ [r]).length = k + 1 ∧ ∀ z ∈ L ++ [r], 0 ≤ z ∧ z ≤ 18446744073709551615 from ⟨by rw [List.length_append, hL.out.1]; rfl, fun z hz => by
        rcases List.mem_append.1 hz with h | h
        · exact hL.out.2 z h
        · obtain rfl := List.mem_singleton.1 h; omega⟩)
      clear hown3 hgrow hnil hown2
      go_roundw
      case rel => exact ⟨k + 1, L ++ [r], _, hlt, rfl, numC k, HO3.out, HL3, HW3⟩
      case measure => exact measC k 5 hlt
    · obtain rfl : k = 5 := by omega
      have hl5 : L.length = 5 := hL.out.1
      obtain ⟨gq, cq, hvv, hgq, hlq⟩ := hown.form (by omega)
      subst hvv
      have HOW := Lib.hid hown
      have HCL := Lib.hid (show ∀ j, j < L.length → wr.cell? ⟨gq, 0 + j, none⟩ = some (.int .u64 (L.getD j 0)) from fun j hj => by
        have h1 := hown.cells (g := gq) rfl j (.int .u64 (L.getD j 0)) (by rw [List.getElem?_map, List.getD_eq_getElem?_getD, List.getElem?_eq_getElem hj]; rfl)
        rwa [Addr.add_lit] at h1)
      have hcq : L.length ≤ cq := by
        rcases hown.2 with ⟨h', _⟩ | ⟨g', cap', cur, h', _, _, h1, _⟩
        · cases h'
        · simp only [Value.slice.injEq, Option.some.injEq, Addr.mk.injEq, and_true, true_and] at h'
          rw [h'.2]; exact h1
      clear hl5
      have HTR := Lib.hid (fun W hT hN => trusted_run (fun b => w.heap.size < b ∧ b < g) 2 T (.int .i64 t) (.slice A1 n1 k1) (.slice A2 n2 k2) (some ⟨gq, 0, none⟩) L cq W (by rw [hL.out.1]; omega) (by rw [hL.out.1]; omega) hT hL.out.2 hN hcq)
      rw [hL.out.1] at HTR ⊢
      obtain ⟨o0, o1, o2⟩ := hW.out.out.cs
      clear hown HOW
      go_wp2_with fail
      refine (HTR.out _ hW.out.mem (fun j hj => ⟨gq, 0, rfl, HCL.out j (by rw [hL.out.1]; exact hj)⟩)).mono ?_
      rintro e W9 ⟨⟨b, rfl, hf⟩, hb9⟩
      rw [hL.out.1] at hf
      have HF := Lib.hid hf
      have HC9 := Lib.hid (hW.out.bel hb9)
      have HCL9 := Lib.hid (show ∀ j, j < 5 → W9.cell? ⟨gq, j, none⟩ = some (.int .u64 (L.getD j 0)) from fun j hj => by
        have h1 := HCL.out j (by rw [hL.out.1]; exact hj)
        rw [Nat.zero_add] at h1
        exact (hb9.cell (cell_lt h1)).trans h1)
      have HG0 := Lib.hid (show sayN L b 0 = 0 from rfl)
      have hbeW : True := trivial
      clear hb9 hf HTR o0 o1 o2
      by_cases hb0 : b = 0
      · subst hb0
        go_wp2_with fail
        go_loop [9, 36] (fun a x => ∃ y : Nat, y ≤ 5 ∧ a = .int .i64 0 ∧ x = .int .i64 y) (fun _ x => 5 - (intOf x).toNat)
        case atStart => exact ⟨0, by omega, rfl, rfl⟩
        case round =>
          obtain ⟨y, hy, rfl, rfl⟩ := hrel
          by_cases hlt2 : y < 5
          · have hcy := HCL9.out y hlt2
            generalize L.getD y 0 = z at *
            go_wp2_with fail
            go_round
            case rel => exact ⟨y + 1, hlt2, rfl, numC y⟩
            case measure => exact measC y 5 hlt2
          · obtain rfl : y = 5 := by omega
            clear hbeW
            have hba := balloc (bref W9) (.cells #[.int .u64 9, .int .u64 9, .int .u64 9, .int .u64 9, .int .u64 9] 30)
            have HCX := Lib.hid (HC9.out.bel hba)
            have HNA := Lib.hid (show (W9.alloc (.cells #[.int .u64 9, .int .u64 9, .int .u64 9, .int .u64 9, .int .u64 9] 30)).heap[W9.heap.size]? = some (.cells #[.int .u64 9, .int .u64 9, .int .u64 9, .int .u64 9, .int .u64 9] 30 (0, 0)) from heap_alloc_new _ _)
            obtain ⟨p0, p1, p2⟩ := HCX.out.out.cs
            obtain ⟨o0, o1, o2⟩ := HC9.out.out.cs
            clear hba
            go_wp2_with fail
            refine (trusted_run _ 2 _ _ _ _ _ [9, 9, 9, 9, 9] 5 _ (by decide) (by decide) HCX.out.mem (by decide) (fun k hk => ⟨W9.heap.size, 0, rfl, ?_⟩) (by decide)).mono ?_
            · rw [cell_of_row _ _ (0 + k) _ _ (0, 0) HNA.out]
              match k, hk with
              | 0, _ | 1, _ | 2, _ | 3, _ | 4, _ => rfl
            rintro e W10 ⟨⟨b2, rfl, hf2⟩, hb10⟩
            have hf2 := nine hf2
            have HC10 := Lib.hid (HCX.out.bel hb10)
            clear hb10 p0 p1 p2 o0 o1 o2
            obtain ⟨o0, o1, o2⟩ := HC10.out.out.cs
            rcases hf2 with ⟨rfl, hs31⟩ | ⟨rfl, hs31⟩
            all_goals
              have HS31 := Lib.hid hs31
              clear hs31
              go_wp2_with fail
              refine (rsat_run _ 2 T _ _ _ 31 _ (by omega) HC10.out.mem).mono ?_
              rintro e W11 ⟨rfl, hb11⟩
              have h31 := HS31.out
              rw [show (((31 : Nat) : Int)) = 31 from rfl, h31]
              have HC11 := Lib.hid (HC10.out.bel hb11)
              clear hb11 h31 o0 o1 o2
              go_wp2_with fail
              refine (sane42 _).mono ?_
              rintro e W12 ⟨rfl, hb12⟩
              have HBF := Lib.hid (bstep HC11.out.below hb12)
              clear hb12
              go_wp2_with fail
              go_ret
              exact ⟨rfl, HBF.out⟩
      · have qb : (b != 0) = true := bne_iff_ne.2 hb0
        have qb2 : (b == 0) = false := beq_eq_false_iff_ne.2 hb0
        go_wp2_with fail
        go_loop [9, 36] (fun a x => ∃ y : Nat, y ≤ 5 ∧ a = .int .i64 ((sayN L b y : Nat) : Int) ∧ x = .int .i64 y) (fun _ x => 5 - (intOf x).toNat)
        case atStart => exact ⟨0, by omega, by rw [HG0.out]; rfl, rfl⟩
        case round =>
          obtain ⟨y, hy, rfl, rfl⟩ := hrel
          by_cases hlt2 : y < 5
          · have hcy := HCL9.out y hlt2
            obtain ⟨z, hz⟩ : ∃ z, L.getD y 0 = z := ⟨_, rfl⟩
            have HZZ := Lib.hid hz
            rw [hz] at hcy
            clear hz
            · rcases (show (z == b) = false ∨ (z == b) = true by cases (z == b) <;> simp) with q0 | q0
              · have HS2 := Lib.hid (show sayN L b (y + 1) = sayN L b y by
                  show (if L.getD y 0 = b then sayN L b y ||| 2 ^ y else sayN L b y) = _
                  rw [HZZ.out, if_neg (beq_eq_false_iff_ne.1 q0)])
                go_wp2_with fail
                go_round
                case rel => exact ⟨y + 1, hlt2, by rw [HS2.out], numC y⟩
                case measure => exact measC y 5 hlt2
              · have HS2 := Lib.hid (show sayN L b (y + 1) = sayN L b y ||| 2 ^ y by
                  show (if L.getD y 0 = b then sayN L b y ||| 2 ^ y else sayN L b y) = _
                  rw [HZZ.out, if_pos (beq_iff_eq.1 q0)])
                have hsl := sayN_lt L b y (by omega)
                have hkp : 2 ^ y ≤ 2 ^ 5 := Nat.pow_le_pow_right (by omega) (by omega)
                have hor := shl_or (sayN L b y) y (by omega) (by omega)
                have hyw : IntKind.u64.wrap (y : Int) = (y : Int) := IntWalk.u64_in _ (by omega)
                have hy64 : (y : Int) < 64 := by omega
                have hy0 : (0 : Int) ≤ (y : Int) := by omega
                go_wp2_with fail
                go_round
                case rel => exact ⟨y + 1, hlt2, by rw [HS2.out], numC y⟩
                case measure => exact measC y 5 hlt2
          · obtain rfl : y = 5 := by omega
            have hsl := sayN_lt L b 5 (by omega)
            have HGD := Lib.hid (show satB 2 T ((sayN L b 5 : Nat) : Int) = true from (HF.out.good.resolve_left hb0).2)
            generalize sayN L b 5 = sd at *
            obtain ⟨o0, o1, o2⟩ := HC9.out.out.cs
            go_wp2_with fail
            refine (rsat_run _ 2 T _ _ _ sd _ (by omega) HC9.out.mem).mono ?_
            rintro e W9' ⟨rfl, hb9'⟩
            rw [HGD.out]
            have HC9' := Lib.hid (HC9.out.bel hb9')
            clear hb9' o0 o1 o2
            clear hbeW
            have hba := balloc (bref W9') (.cells #[.int .u64 9, .int .u64 9, .int .u64 9, .int .u64 9, .int .u64 9] 30)
            have HCX := Lib.hid (HC9'.out.bel hba)
            have HNA := Lib.hid (show (W9'.alloc (.cells #[.int .u64 9, .int .u64 9, .int .u64 9, .int .u64 9, .int .u64 9] 30)).heap[W9'.heap.size]? = some (.cells #[.int .u64 9, .int .u64 9, .int .u64 9, .int .u64 9, .int .u64 9] 30 (0, 0)) from heap_alloc_new _ _)
            obtain ⟨p0, p1, p2⟩ := HCX.out.out.cs
            obtain ⟨o0, o1, o2⟩ := HC9'.out.out.cs
            clear hba
            go_wp2_with fail
            refine (trusted_run _ 2 _ _ _ _ _ [9, 9, 9, 9, 9] 5 _ (by decide) (by decide) HCX.out.mem (by decide) (fun k hk => ⟨W9'.heap.size, 0, rfl, ?_⟩) (by decide)).mono ?_
            · rw [cell_of_row _ _ (0 + k) _ _ (0, 0) HNA.out]
              match k, hk with
              | 0, _ | 1, _ | 2, _ | 3, _ | 4, _ => rfl
            rintro e W10 ⟨⟨b2, rfl, hf2⟩, hb10⟩
            have hf2 := nine hf2
            have HC10 := Lib.hid (HCX.out.bel hb10)
            clear hb10 p0 p1 p2 o0 o1 o2
            obtain ⟨o0, o1, o2⟩ := HC10.out.out.cs
            rcases hf2 with ⟨rfl, hs31⟩ | ⟨rfl, hs31⟩
            all_goals
              have HS31 := Lib.hid hs31
              clear hs31
              go_wp2_with fail
              refine (rsat_run _ 2 T _ _ _ 31 _ (by omega) HC10.out.mem).mono ?_
              rintro e W11 ⟨rfl, hb11⟩
              have h31 := HS31.out
              rw [show (((31 : Nat) : Int)) = 31 from rfl, h31]
              have HC11 := Lib.hid (HC10.out.bel hb11)
              clear hb11 h31 o0 o1 o2
              go_wp2_with fail
              refine (sane42 _).mono ?_
              rintro e W12 ⟨rfl, hb12⟩
              have HBF := Lib.hid (bstep HC11.out.below hb12)
              clear hb12
              go_wp2_with fail
              go_ret
              exact ⟨rfl, HBF.out⟩
end Go.Proofs.YtoceogdpkfcghaaDoor
