/- The walk of BlockingOrders: every right order of a cascade is accepted and leads to the same set, and no shorter beginning of it is accepted. -/
import Derived.Test.YtbbdmaakphoofaaAwake11
import Derived.Test.YtbbdmaakphoofaaRefBlk
import Derived.Deep.AppendLies
import Derived.Deep.DeepCutAuto
import Derived.Deep.CutRange
namespace Go.Proofs.Ytbbdmaakphoofaa
set_option linter.unusedVariables false
set_option linter.unusedSimpArgs false
open Go.RowKit

theorem bchk_ok {d : Nat} {ms : List Mem} {r : Nat} {P Q : Prop} (h : CClosed d ms r ∧ P ∨ (∃ k, k < ms.length ∧ r.testBit k = false ∧ blkM d ms r k = true) ∧ Q) (hc : CClosed d ms r) : P := by
  rcases h with ⟨_, h⟩ | ⟨⟨k, hk, hb, hu⟩, _⟩
  · exact h
  · rw [hc k hk hb] at hu; cases hu
theorem bchk_bad {d : Nat} {ms : List Mem} {r k : Nat} {P Q : Prop} (h : CClosed d ms r ∧ P ∨ (∃ k, k < ms.length ∧ r.testBit k = false ∧ blkM d ms r k = true) ∧ Q) (hk : k < ms.length) (hu : r.testBit k = false ∧ blkM d ms r k = true) : Q := by
  rcases h with ⟨hc, _⟩ | ⟨_, h⟩
  · have := hc k hk hu.1; rw [hu.2] at this; cases this
  · exact h
theorem keepLB {w W W' : World} {g : Nat} {v u : Value} {ms : List Mem} {P : Nat → Prop} {l : List Int} (h : W.cell? ⟨g, 0, none⟩ = some v ∧ CMade w g v ms W ∧ NodesAt P W u l) (hb : Below W.heap.size W W') : W'.cell? ⟨g, 0, none⟩ = some v ∧ CMade w g v ms W' ∧ NodesAt P W' u l :=
  ⟨(h.2.1.bel hb).cell, h.2.1.bel hb, nodes_bel h.2.2 hb⟩
theorem memsLB {w W : World} {g : Nat} {v u : Value} {ms : List Mem} {P : Nat → Prop} {l : List Int} (h : W.cell? ⟨g, 0, none⟩ = some v ∧ CMade w g v ms W ∧ NodesAt P W u l) : MemsAt (fun b => w.heap.size < b) 2 W v ms := h.2.1.mems
theorem nodesLB {w W : World} {g : Nat} {v u : Value} {ms : List Mem} {P : Nat → Prop} {l : List Int} (h : W.cell? ⟨g, 0, none⟩ = some v ∧ CMade w g v ms W ∧ NodesAt P W u l) : NodesAt P W u l := h.2.2
theorem cas_uniq {d : Nat} {ms : List Mem} {S C H : Nat} (hC : C < 1024) (hH : H < 1024) (h1 : IsCas d ms S C) (h2 : IsCas d ms S H) : C = H :=
  sub_antisymm (h1.least H hH h2.sub h2.closed) (h2.least C hC h1.sub h1.closed)
/-- A shorter order leaves a node that can follow. -/
theorem cas_cut {d : Nat} {ms : List Mem} : ∀ (l : List Int) (s r : Nat), CasR d ms s l r → l ≠ [] → ∃ r' k, CasR d ms s l.dropLast r' ∧ k < ms.length ∧ r'.testBit k = false ∧ blkM d ms r' k = true
  | [], _, _, _, h => absurd rfl h
  | [x], s, r, ⟨k, _, hk, hb, hu, _⟩, _ => ⟨s, k, rfl, hk, hb, hu⟩
  | x :: y :: l, s, r, ⟨k, e, hk, hb, hu, h2⟩, _ => by
    obtain ⟨r', j, h3, h4, h5, h6⟩ := cas_cut (y :: l) _ r h2 (by simp)
    exact ⟨r', j, ⟨k, e, hk, hb, hu, h3⟩, h4, h5, h6⟩
/-- The candidates: nodes that can follow; none only if none can. -/
def CanB (d : Nat) (ms : List Mem) (s j : Nat) (cs : List Int) : Prop :=
  (∀ x ∈ cs, ∃ k : Nat, x = (k : Int) ∧ k < ms.length ∧ s.testBit k = false ∧ blkM d ms s k = true) ∧ (cs = [] → ∀ i, i < j → s.testBit i = false → blkM d ms s i = false)
theorem CanB.skip {d : Nat} {ms : List Mem} {s j : Nat} {cs : List Int} (h : CanB d ms s j cs) (hu : s.testBit j = true ∨ blkM d ms s j = false) : CanB d ms s (j + 1) cs := by
  refine ⟨h.1, fun e i hi hb => ?_⟩
  rcases Nat.lt_or_ge i j with h1 | h1
  · exact h.2 e i h1 hb
  · obtain rfl : i = j := by omega
    rcases hu with h2 | h2
    · rw [h2] at hb; cases hb
    · exact h2
theorem CanB.add {d : Nat} {ms : List Mem} {s j : Nat} {cs : List Int} (h : CanB d ms s j cs) (hk : j < ms.length) (hb : s.testBit j = false) (hu : blkM d ms s j = true) : CanB d ms s (j + 1) (cs ++ [(j : Int)]) := by
  refine ⟨fun x hx => ?_, fun e => by simp at e⟩
  rcases List.mem_append.1 hx with h1 | h1
  · exact h.1 x h1
  · rw [List.mem_singleton] at h1
    exact ⟨j, h1, hk, hb, hu⟩
theorem bit0_fact' (S K : Nat) (h : S < 1024) (hK : K < 10) : (bits .and .i64 ((S : Int) / 2 ^ K) 1 == 0) = !S.testBit K := by
  have all : ∀ S : Fin 1024, ∀ K : Fin 10, (bits .and .i64 ((S.val : Int) / 2 ^ K.val) 1 == 0) = !S.val.testBit K.val := by decide +kernel
  exact all ⟨S, h⟩ ⟨K, hK⟩
theorem or_fact' (s K : Nat) (hs : s < 1024) (hK : K < 10) : bits .or .i64 (s : Int) (IntKind.i64.wrap (2 ^ K)) = ((s ||| 2 ^ K : Nat) : Int) := by
  have all : ∀ S : Fin 1024, ∀ K : Fin 10, bits .or .i64 (S.val : Int) (IntKind.i64.wrap (2 ^ K.val)) = ((S.val ||| 2 ^ K.val : Nat) : Int) := by decide +kernel
  exact all ⟨s, hs⟩ ⟨K, hK⟩

set_option maxRecDepth 100000 in
set_option maxHeartbeats 4000000 in
theorem walkBlockingOrders (a0 : Option Addr) (len0 cap0 : Nat) (z0 : List Int) (w : World) (w0 : IsRow .i64 w a0 len0 cap0 z0) :
    Calls Try.prog 3 #[.slice a0 len0 cap0] w fun e w' => e = .returned (.bool true) ∧ Below w.heap.size w w' := by
  obtain ⟨i0, hin, hz0, hz1, hz2⟩ := info_parts infoInt
  have HR := Lib.hid w0
  clear w0
  go_enter Try.func3, Try.ntmps3
  go_wp2_with fail
  refine (TNew_run _ _ _ _ _ HR.out).mono ?_
  rintro e v0 ⟨rfl, hs0, hb0⟩
  have HS0 := Lib.hid hs0
  have HB0 := Lib.hid hb0
  have hsl := hs0.lt
  clear hs0 hb0
  go_wp2_with fail
  refine (config_run _ 10 (by omega) (by omega) _ HS0.out).mono ?_
  rintro e v2 ⟨cv, ms, rfl, hl1, hl2, hM, hok, hs2, hg2⟩
  have hM0 := id hM
  obtain ⟨A, c, hcv, _⟩ := hM0
  obtain ⟨L, hL⟩ : ∃ L, ms.length = L := ⟨_, rfl⟩
  rw [hL] at hcv
  subst hcv
  have hba := balloc (bref v2) (.cells #[.slice A L c] 27)
  have HM := Lib.hid (show CMade w v2.heap.size (.slice A L c) ms (v2.alloc (.cells #[.slice A L c] 27)) from
    ⟨hs2.alloc _, alloc_at rfl, (hM.both (Q := fun b => w.heap.size < b) (fun _ _ _ => rfl) (fun k _ hk => by omega)).below hba, hs2.lt, bstep (bgrownC HB0.out hg2 (Nat.le_refl _)) hba⟩)
  have HL := Lib.hid hL
  have hl10 : ms.length ≤ 10 := by omega
  clear hM hok hs2 hg2 hba HS0 HB0 hl1 hL
  go_upto_region 3 with fail
  generalize v2.alloc (.cells #[.slice A L c] 27) = W1 at *
  generalize v2.heap.size = g at *
  have c0 := HM.out.cell
  go_wp2_with fail
  refine (TN_run _ _ _ (by omega) (by omega) HM.out.tape).mono ?_
  rintro e W2 ⟨r, hr0, hr1, rfl, hs2, hg2⟩
  obtain ⟨x, rfl⟩ := Int.eq_ofNat_of_zero_le hr0
  have HM2 := Lib.hid (HM.out.grown hs2 hg2)
  clear hs2 hg2 HM c0
  have hxl : x < 1024 := by omega
  have hgW := HM2.out.lt
  have hgs := HM2.out.low
  obtain ⟨B1, hB1⟩ : ∃ B1, W2.heap.size = B1 := ⟨_, rfl⟩
  have HB1 := Lib.hid hB1
  rw [hB1] at hgW
  clear hB1
  go_wp2_with fail
  go_loopw [6, 7] (fun lv gv W => ∃ (left : Nat) (gs : List Int) (gw : Value), lv = .int .i64 (left : Int) ∧ gv = gw ∧ W.ownsRow B1 3 1 gw gs.length (gs.map (Value.int .i64)) ∧ Hid (CasAt 2 ms x gs left) ∧ Hid (TapeOk W w.heap.size) ∧ Hid (W2.grownBy W (some w.heap.size))) (fun lv _ _ => 1024 - (intOf lv).toNat)
  case atStart => exact ⟨x, [], .slice none 0 0, rfl, rfl, World.ownsRow_nil _ _ _ _, Lib.hid (CasAt.first hxl), Lib.hid HM2.out.tape, Lib.hid (World.grownBy.refl _ _)⟩
  case round =>
    obtain ⟨left, gs, gw, rfl, hgv, hown, hE, hTp, hGr⟩ := hrel
    replace hgv := hgv.symm
    subst hgv
    have hC := Lib.hid (HM2.out.grown hTp.out hGr.out)
    have hsz : B1 ≤ wr.heap.size := by rw [← HB1.out]; exact hGr.out.size
    have hlen := hE.out.len
    have HOWN5 := Lib.hid hown
    clear hown
    have hll := hE.out.lt
    obtain ⟨W5, hW5⟩ : ∃ x, x = wr := ⟨_, rfl⟩
    subst hW5
    have HC5 := hC
    have HG5 := hGr
    have hsz5 := hsz
    have c0 := HC5.out.cell
    have hLm : ms.length = L := HL.out
    have hL10 : L ≤ 10 := by omega
    have HLM := Lib.hid hLm
    clear hC hGr hTp hsz hLm
    go_wp2_with fail
    go_loopw [8, 27] (fun cv t W => ∃ (j : Nat) (cs : List Int) (cw : Value), j ≤ L ∧ cv = cw ∧ t = .int .i64 j ∧ W.ownsRow W5.heap.size 3 1 cw cs.length (cs.map (Value.int .i64)) ∧ cs.length ≤ j ∧ Hid (CanB 2 ms left j cs) ∧ Hid (Below W5.heap.size W5 W)) (fun _ t _ => L - (intOf t).toNat)
    case atStart => exact ⟨0, [], .slice none 0 0, by omega, rfl, rfl, World.ownsRow_nil _ _ _ _, by simp, Lib.hid ⟨fun x hx => by simp at hx, fun _ i hi => by omega⟩, Lib.hid (bref _)⟩
    case round =>
      obtain ⟨j, cs, cw, hj, rfl, rfl, hownc, hcl, hcan, hB⟩ := hrel
      have c1 := (HC5.out.bel hB.out).cell
      by_cases hlt : j < L
      · have hkm : j < ms.length := by have := HLM.out; omega
        have hbf := bit0_fact' left j hll (by omega)
        have hj0 : (0 : Int) ≤ (j : Int) := by omega
        have HOC := Lib.hid hownc
        clear hownc
        cases hbit : left.testBit j
        · rw [hbit] at hbf
          have HBT := Lib.hid hbit
          clear hbit
          go_wp2_with fail
          refine (rblocks_run _ 2 ms _ j left _ hl10 hll (by omega) (HC5.out.bel hB.out).mems).mono ?_
          rintro e W6 ⟨rfl, hb6⟩
          have HB6 := Lib.hid (bstep hB.out hb6)
          have hown6 := own_bel HOC.out hb6
          have hbs := HB6.out.size
          clear hb6 c1 HOC
          cases hbl : blkM 2 ms left j
          · have HU := Lib.hid hbl
            clear hbl
            have HO := Lib.hid hown6
            clear hown6
            go_wp2_with fail
            go_roundw
            case rel => exact ⟨j + 1, cs, _, by omega, rfl, by go_num, HO.out, by omega, Lib.hid (hcan.out.skip (.inr HU.out)), HB6⟩
            case measure => simp [intOf]; omega
          · have HU := Lib.hid hbl
            clear hbl
            go_wp2_with (at_builtin; refine wpList_append_own _ rfl _ _ 22 rfl W5.heap.size 3 i0 (.int .i64 0) 1 8 Try.underlying22 hin hz0 hz1 hz2 rfl (by decide) _ _ _ rfl (hown6.alloc _) ⟨W6.heap.size, 0, none⟩ 1 1 [.int .i64 (j : Int)] rfl rfl (cell_one_new _ _ _) (fun u hu => by simp at hu; subst hu; rfl) (by unfold maxLen; omega) (by omega) (by simp; omega) ?_; intro v' w1 hown' hgrow hnil)
            have HO := Lib.hid (own_snoc hown')
            have HB7 := Lib.hid (Below.grown (balloc HB6.out (.cells #[.int .i64 (j : Int)] 3)) hgrow (by simp; omega) (fun q hq => (hown6.lt q hq).1))
            clear hown' hgrow hnil hown6
            go_roundw
            case rel => exact ⟨j + 1, cs ++ [(j : Int)], _, by omega, rfl, by go_num, by simpa using HO.out, by simp; omega, Lib.hid (hcan.out.add hkm HBT.out HU.out), HB7⟩
            case measure => simp [intOf]; omega
        · rw [hbit] at hbf
          have HBT := Lib.hid hbit
          clear hbit c1
          go_wp2_with fail
          go_roundw
          case rel => exact ⟨j + 1, cs, _, by omega, rfl, by go_num, HOC.out, by omega, Lib.hid (hcan.out.skip (.inl HBT.out)), hB⟩
          case measure => simp [intOf]; omega
      · obtain rfl : L = j := by omega
        have HC7 := Lib.hid (HC5.out.bel hB.out)
        have HOWN7 := Lib.hid (own_bel HOWN5.out hB.out)
        have hsz7 : B1 ≤ wr.heap.size := Nat.le_trans hsz5 hB.out.size
        have HG7 := Lib.hid (grown_trans HG5.out (grown_below (r := some w.heap.size) hB.out))
        by_cases hcs : cs = []
        · subst hcs
          have HCL := Lib.hid (show CClosed 2 ms left from fun i hi hb => hcan.out.2 rfl i (by have := HLM.out; omega) hb)
          have HOWN7' := HOWN7.out.2
          obtain ⟨Ac, cc, rfl⟩ := own_slice hownc
          obtain ⟨Al, cl, rfl⟩ := own_slice HOWN7.out
          have HNl := Lib.hid (NodesAt.of_own HOWN7.out)
          have hcap : gs.length ≤ cl := by
            rcases HOWN7' with ⟨e, h0⟩ | ⟨g', cap, cur, e, _, _, h1, _⟩
            · omega
            · cases e; exact h1
          have HEL := Lib.hid hE.out.cas
          have HIS := Lib.hid (hE.out.is HCL.out)
          clear hownc HOWN7' HC5 HG5 HOWN5
          go_wp2_with fail
          refine (bcheck_run _ _ 2 ms _ _ gs x left _ hl10 hxl (by omega) HC7.out.mems HNl.out HEL.out).mono ?_
          rintro e W8 ⟨h8, hb8⟩
          obtain rfl := bchk_ok h8 HCL.out
          have HC8 := Lib.hid (HC7.out.bel hb8)
          have HNl8 := Lib.hid (nodes_bel HNl.out hb8)
          clear h8 hb8 c1 HC7 HNl HG7
          have c0 := HC8.out.cell
          go_wp2_with fail
          refine (cascade_run _ 2 ms _ x _ hl10 hxl HC8.out.mems).mono ?_
          rintro e W10 ⟨gv2, gs2, G3, rfl, _, hG3l, _, _, hic, hb10⟩
          obtain rfl : G3 = left := cas_uniq hG3l hll hic HIS.out
          have HC10 := Lib.hid (HC8.out.bel hb10)
          have HNl10 := Lib.hid (nodes_bel HNl8.out hb10)
          clear hic hb10 c0 HC8 HNl8
          by_cases hg0 : gs = []
          · subst hg0
            go_wp2_with fail
            refine (awake11 _).mono ?_
            rintro e Z ⟨rfl, hbz⟩
            have HZ := Lib.hid (bstep HC10.out.below hbz)
            clear hbz
            go_wp2_with fail
            go_ret
            exact ⟨rfl, HZ.out⟩
          · obtain ⟨r', k', hel', hk', hu'⟩ := cas_cut gs _ _ HEL.out hg0
            obtain ⟨n, hn⟩ : ∃ n, gs.length = n + 1 := ⟨gs.length - 1, by have := List.length_pos_iff.2 hg0; omega⟩
            have HN := Lib.hid hn
            have HEL' := Lib.hid hel'
            have HU' := Lib.hid hu'
            have hlen' : gs.dropLast.length ≤ 1000000 := by rw [List.length_dropLast]; omega
            have HNP := Lib.hid (nodes_pre HNl10.out hn)
            rw [hn] at hcap hlen
            rw [hn]
            have hw1 : IntKind.i64.wrap ((n : Int) + 1 - 1) = (n : Int) := (IntWalk.i64_in _ (by omega)).trans (by omega)
            have hw2 : IntKind.i64.wrap (n : Int) = (n : Int) := IntWalk.i64_in _ (by omega)
            have hpos : (0 : Int) < (n : Int) + 1 := by omega
            have hn0 : (0 : Int) ≤ (n : Int) := by omega
            have hncl : (n : Int) ≤ (cl : Int) := by omega
            have hncl2 : n ≤ cl := by omega
            clear hn hel' hu' HNl10 hg0
            go_upto_region 21 with fail
            have hS := Lib.hid (keepLB ⟨HC10.out.cell, HC10.out, HNP.out⟩ (⟨rfl, rfl, rfl, Nat.le_refl _, fun _ _ => rfl⟩ : Below W10.heap.size W10 W10.drew))
            refine wp_region_noPanic ?_
            refine wp_region_held_drew (S := fun W => W.cell? ⟨g, 0, none⟩ = some (.slice A L c) ∧ CMade w g (.slice A L c) ms W ∧ NodesAt (fun b => B1 ≤ b) W (.slice Al n cl) gs.dropLast) (by kernel_rfl) hS.out (fun hHeld => ?_)
            refine take_d (some 93) (i := 0) (v := ?_) rfl rfl (by kernel_rfl) (by kernel_rfl) (by kernel_rfl) (fun _ _ _ h => h) (Or.inl ⟨by rfl, ?_⟩) (by assumption) ?_
            rotate_left
            · intro w hSw; (try dsimp only at hSw); go_simp; (try with_reducible rfl)
            try simp only [Act.put, List.setIfInBounds_toArray, List.set_cons_zero, List.set_cons_succ]
            refine take_d (some 94) (i := 1) (v := ?_) rfl rfl (by kernel_rfl) (by kernel_rfl) (by kernel_rfl) (fun _ _ _ h => h) (Or.inl ⟨by rfl, ?_⟩) (by assumption) ?_
            rotate_left
            · intro w hSw; (try dsimp only at hSw); go_simp; (try with_reducible rfl)
            try simp only [Act.put, List.setIfInBounds_toArray, List.set_cons_zero, List.set_cons_succ]
            refine take_d (some 95) (i := 2) (v := ?_) rfl rfl (by kernel_rfl) (by kernel_rfl) (by kernel_rfl) (fun _ _ _ h => h) (Or.inl ⟨by rfl, ?_⟩) (by assumption) ?_
            rotate_left
            · intro w hSw; (try dsimp only at hSw); go_simp; (try with_reducible rfl)
            try simp only [Act.put, List.setIfInBounds_toArray, List.set_cons_zero, List.set_cons_succ]
            refine take_d (some 96) (i := 3) (v := ?_) rfl rfl (by kernel_rfl) (by kernel_rfl) (by kernel_rfl) (fun _ _ _ h => h) (Or.inl ⟨by rfl, ?_⟩) (by assumption) ?_
            rotate_left
            · intro w hSw; (try dsimp only at hSw); go_simp; (try with_reducible rfl)
            try simp only [Act.put, List.setIfInBounds_toArray, List.set_cons_zero, List.set_cons_succ]
            refine take_d (some 97) (i := 4) (v := ?_) rfl rfl (by kernel_rfl) (by kernel_rfl) (by kernel_rfl) (fun _ _ _ h => h) (Or.inl ⟨by rfl, ?_⟩) (by assumption) ?_
            rotate_left
            · intro w hSw; (try dsimp only at hSw); go_simp; (try with_reducible rfl)
            try simp only [Act.put, List.setIfInBounds_toArray, List.set_cons_zero, List.set_cons_succ]
            refine take_d (some 98) (i := 5) (v := ?_) rfl rfl (by kernel_rfl) (by kernel_rfl) (by kernel_rfl) (fun _ _ _ h => h) (Or.inl ⟨by rfl, ?_⟩) (by assumption) ?_
            rotate_left
            · intro w hSw; (try dsimp only at hSw); go_simp; (try with_reducible rfl)
            try simp only [Act.put, List.setIfInBounds_toArray, List.set_cons_zero, List.set_cons_succ]
            refine wpAnyH_ready (rs := [6]) (by kernel_rfl) (by simp) ?_
            refine AllReadyH.cons rfl (fun K hK => ?_) AllReadyH.nil
            go_simp
            refine hK.out _ _ (by assumption) (fun hHeld => ?_)
            clear hK K
            try simp only [Act.put, List.setIfInBounds_toArray, List.set_cons_zero, List.set_cons_succ]
            refine wpAnyH_ready (rs := [7]) (by kernel_rfl) (by simp) ?_
            refine AllReadyH.cons rfl (fun K hK => ?_) AllReadyH.nil
            go_simp
            refine (bcheck_run _ _ 2 ms _ _ gs.dropLast x r' _ hl10 hxl hlen' (memsLB (by assumption)) (nodesLB (by assumption)) HEL'.out).mono ?_; rintro e WK2 ⟨h9, hbK⟩; obtain rfl := bchk_bad h9 hk' HU'.out; have hSK := keepLB (by assumption) hbK; clear h9
            go_wp2_with fail
            refine hK.out _ _ ?_ (fun hHeld => ?_)
            · exact hSK
            clear hK K
            try simp only [Act.put, List.setIfInBounds_toArray, List.set_cons_zero, List.set_cons_succ]
            refine take_d (some 92) (i := 8) (v := ?_) rfl rfl (by kernel_rfl) (by kernel_rfl) (by kernel_rfl) (fun _ _ _ h => h) (Or.inl ⟨by rfl, ?_⟩) (by assumption) ?_
            rotate_left
            · intro w hSw; (try dsimp only at hSw); go_simp; (try with_reducible rfl)
            try simp only [Act.put, List.setIfInBounds_toArray, List.set_cons_zero, List.set_cons_succ]
            refine take_d (some 101) (i := 9) (v := ?_) rfl rfl (by kernel_rfl) (by kernel_rfl) (by kernel_rfl) (fun _ _ _ h => h) (Or.inl ⟨by rfl, ?_⟩) (by assumption) ?_
            rotate_left
            · intro w hSw; (try dsimp only at hSw); go_simp; (try with_reducible rfl)
            try simp only [Act.put, List.setIfInBounds_toArray, List.set_cons_zero, List.set_cons_succ]
            refine take_d (some 102) (i := 10) (v := ?_) rfl rfl (by kernel_rfl) (by kernel_rfl) (by kernel_rfl) (fun _ _ _ h => h) (Or.inl ⟨by rfl, ?_⟩) (by assumption) ?_
            rotate_left
            · intro w hSw; (try dsimp only at hSw); go_simp; (try with_reducible rfl)
            try simp only [Act.put, List.setIfInBounds_toArray, List.set_cons_zero, List.set_cons_succ]
            refine take_d (some 15) (i := 11) (v := ?_) rfl rfl (by kernel_rfl) (by kernel_rfl) (by kernel_rfl) (fun _ _ _ h => h) (Or.inl ⟨by rfl, ?_⟩) (by assumption) ?_
            rotate_left
            · intro w hSw; (try dsimp only at hSw); go_simp; (try with_reducible rfl)
            try simp only [Act.put, List.setIfInBounds_toArray, List.set_cons_zero, List.set_cons_succ]
            refine take_d (some 16) (i := 12) (v := ?_) rfl rfl (by kernel_rfl) (by kernel_rfl) (by kernel_rfl) (fun _ _ _ h => h) (Or.inl ⟨by rfl, ?_⟩) (by assumption) ?_
            rotate_left
            · intro w hSw; (try dsimp only at hSw); go_simp; (try with_reducible rfl)
            try simp only [Act.put, List.setIfInBounds_toArray, List.set_cons_zero, List.set_cons_succ]
            refine wpAnyH_done (by kernel_rfl) ?_ _
            refine NoPanic.normal ?_
            have HZ0 := Lib.hid hSK.2.1.below
            clear hSK hHeld hS
            go_wp2_with fail
            refine (awake11 _).mono ?_
            rintro e Z ⟨rfl, hbz⟩
            have HZ := Lib.hid (bstep HZ0.out hbz)
            clear hbz
            go_wp2_with fail
            go_ret
            exact ⟨rfl, HZ.out⟩
        · have hcp : 1 ≤ cs.length := List.length_pos_iff.2 hcs
          obtain ⟨Ac, cc, rfl⟩ := own_slice hownc
          have HN := Lib.hid (NodesAt.of_own hownc)
          have hne : ((cs.length : Int) == 0) = false := by rw [beq_eq_false_iff_ne]; omega
          clear hownc hcs c1 HC5 HG5 HOWN5
          go_wp2_with fail
          refine (TN_run _ _ _ (by omega) (by omega) HC7.out.tape).mono ?_
          rintro e W8 ⟨r, hr2, hr3, rfl, hs8, hg8⟩
          obtain ⟨q, rfl⟩ := Int.eq_ofNat_of_zero_le hr2
          have hq : q < cs.length := by omega
          have HT8 := Lib.hid hs8
          have HG8 := Lib.hid (grown_trans HG7.out hg8)
          have hown8 := HOWN7.out.kept hg8 (own_below HOWN7.out (by omega))
          have hsz8 : B1 ≤ W8.heap.size := Nat.le_trans hsz7 hg8.size
          obtain ⟨A', c', hA', hNq⟩ := HN.out
          cases hA'
          obtain ⟨b, off, hb, hP, hc⟩ := hNq q hq
          subst hb
          have hc8 := (World.cell?_of_block (a := ⟨b, off + q, none⟩) (hg8.block b (cell_lt hc) (by simp; omega))).trans hc
          have hmem : cs.getD q 0 ∈ cs := by rw [List.getD_eq_getElem?_getD, List.getElem?_eq_getElem hq]; exact List.getElem_mem hq
          obtain ⟨k, hk, hkm, hbit, hu⟩ := hcan.out.1 _ hmem
          rw [hk] at hc8
          have hE2 := hE.out.step hl10 hkm hbit hu
          have HE2 := Lib.hid hE2
          have hlt2 := hE2.lt
          have HOR := or_fact' left k hll (by omega)
          have hgw := or_grows hbit
          have hk0 : (0 : Int) ≤ (k : Int) := by omega
          have hk64 : ¬ (64 : Int) ≤ (k : Int) := by omega
          have hqc : (q : Int) < (cs.length : Int) := by omega
          have HOW := Lib.hid (fun (j : Nat) (hj : gw.ownBlock = some j) => hown8.lt j hj)
          have HOWN8 := Lib.hid hown8
          clear hs8 hg8 HOWN7 HN hNq hc hmem hk hu hbit hE2 HG7 HC7 hown8
          go_upto_region 15 with fail
          clear hc8
          refine wp_region_noPanic ?_
          refine wp_region_held_drew (S := fun _ => True) (by kernel_rfl) trivial (fun hHeld => ?_)
          refine take_d (some 56) (i := 0) (v := ?_) rfl rfl (by kernel_rfl) (by kernel_rfl) (by kernel_rfl) (fun _ _ _ h => h) (Or.inl ⟨by rfl, ?_⟩) (by assumption) ?_
          rotate_left
          · intro w hSw; (try dsimp only at hSw); go_simp; (try with_reducible rfl)
          try simp only [Act.put, List.setIfInBounds_toArray, List.set_cons_zero, List.set_cons_succ]
          refine take_d (some 57) (i := 1) (v := ?_) rfl rfl (by kernel_rfl) (by kernel_rfl) (by kernel_rfl) (fun _ _ _ h => h) (Or.inl ⟨by rfl, ?_⟩) (by assumption) ?_
          rotate_left
          · intro w hSw; (try dsimp only at hSw); go_simp; (try with_reducible rfl)
          try simp only [Act.put, List.setIfInBounds_toArray, List.set_cons_zero, List.set_cons_succ]
          refine take_d (some 60) (i := 4) (v := ?_) rfl rfl (by kernel_rfl) (by kernel_rfl) (by kernel_rfl) (fun _ _ _ h => h) (Or.inl ⟨by rfl, ?_⟩) (by assumption) ?_
          rotate_left
          · intro w hSw; (try dsimp only at hSw); go_simp; (try with_reducible rfl)
          try simp only [Act.put, List.setIfInBounds_toArray, List.set_cons_zero, List.set_cons_succ]
          refine take_d (some 61) (i := 5) (v := ?_) rfl rfl (by kernel_rfl) (by kernel_rfl) (by kernel_rfl) (fun _ _ _ h => h) (Or.inl ⟨by rfl, ?_⟩) (by assumption) ?_
          rotate_left
          · intro w hSw; (try dsimp only at hSw); go_simp; (try with_reducible rfl)
          try simp only [Act.put, List.setIfInBounds_toArray, List.set_cons_zero, List.set_cons_succ]
          refine take_d (some 62) (i := 6) (v := ?_) rfl rfl (by kernel_rfl) (by kernel_rfl) (by kernel_rfl) (fun _ _ _ h => h) (Or.inl ⟨by rfl, ?_⟩) (by assumption) ?_
          rotate_left
          · intro w hSw; (try dsimp only at hSw); go_simp; (try with_reducible rfl)
          try simp only [Act.put, List.setIfInBounds_toArray, List.set_cons_zero, List.set_cons_succ]
          refine take_d (some 63) (i := 7) (v := ?_) rfl rfl (by kernel_rfl) (by kernel_rfl) (by kernel_rfl) (fun _ _ _ h => h) (Or.inl ⟨by rfl, ?_⟩) (by assumption) ?_
          rotate_left
          · intro w hSw; (try dsimp only at hSw); go_simp; (try with_reducible rfl)
          try simp only [Act.put, List.setIfInBounds_toArray, List.set_cons_zero, List.set_cons_succ]
          refine wpAnyH_ready (rs := [2]) (by kernel_rfl) (by simp) ?_
          refine AllReadyH.cons rfl (fun K hK => ?_) AllReadyH.nil
          go_simp
          refine hK.out _ _ trivial (fun hHeld => ?_)
          clear hK K
          try simp only [Act.put, List.setIfInBounds_toArray, List.set_cons_zero, List.set_cons_succ]
          refine wpAnyH_ready (rs := [3]) (by kernel_rfl) (by simp) ?_
          refine AllReadyH.cons rfl (fun K hK => ?_) AllReadyH.nil
          refine step_append_lies _ rfl _ _ 22 (by rfl) B1 3 i0 (.int .i64 0) 1 8 Try.underlying22 hin hz0 hz1 hz2 rfl (by decide) gw gs.length (gs.map (Value.int .i64)) (by rfl) (HOWN8.out.alloc _) ⟨W8.heap.size, 0, none⟩ 1 1 [.int .i64 (k : Int)] (by rfl) rfl (cell_one_new _ _ _) (fun u hu => by simp at hu; subst hu; rfl) (by omega) (by unfold maxLen; omega) (by omega) (by simp; omega) _ rfl ?_
          intro g4 cap4 w1 hown' hgrow hat hlt4
          refine hK.out _ _ trivial (fun hHeld => ?_)
          clear hK K
          simp only [Act.put, List.getElem_toArray, List.getElem_cons_succ, List.getElem_cons_zero, List.setIfInBounds_toArray, List.set_cons_zero, List.set_cons_succ]
          refine take_d (some 7) (i := 8) (v := ?_) rfl rfl (by kernel_rfl) (by kernel_rfl) (by kernel_rfl) (fun _ _ _ h => h) (Or.inl ⟨by rfl, ?_⟩) (by assumption) ?_
          rotate_left
          · intro w hSw; (try dsimp only at hSw); go_simp; (try with_reducible rfl)
          try simp only [Act.put, List.setIfInBounds_toArray, List.set_cons_zero, List.set_cons_succ]
          refine take_d (some 6) (i := 9) (v := ?_) rfl rfl (by kernel_rfl) (by kernel_rfl) (by kernel_rfl) (fun _ _ _ h => h) (Or.inl ⟨by rfl, ?_⟩) (by assumption) ?_
          rotate_left
          · intro w hSw; (try dsimp only at hSw); go_simp; (try with_reducible rfl)
          try simp only [Act.put, List.setIfInBounds_toArray, List.set_cons_zero, List.set_cons_succ]
          refine wpAnyH_done (by kernel_rfl) ?_ _
          refine NoPanic.normal ?_
          have low : ∀ j, j < B1 → w1.heap[j]? = W8.heap[j]? := fun j hj => (hgrow.block j (by simp; omega) (fun e => by have := (HOW.out _ e.symm).1; omega)).trans (Below.heap_alloc _ _ _ (by omega))
          have HT9 := Lib.hid (HT8.out.keepLow (fun j hj => low j (by omega)))
          have HG9 := Lib.hid (gown (grown_trans HG8.out (grown_below (r := some w.heap.size) (bstep (balloc (bref W8) (.cells #[.int .i64 (k : Int)] 3)) (⟨rfl, rfl, rfl, Nat.le_refl _, fun _ _ => rfl⟩ : Below (W8.alloc (.cells #[.int .i64 (k : Int)] 3)).heap.size (W8.alloc (.cells #[.int .i64 (k : Int)] 3)) (W8.alloc (.cells #[.int .i64 (k : Int)] 3)).drew)))) hgrow (fun j hj => by have := (HOW.out j hj).1; have := HB1.out; omega))
          have HO := Lib.hid (own_snoc hown')
          clear hown' hgrow hat hlt4 low HOWN8
          go_wp2_with fail
          go_roundw
          case rel => first | exact ⟨left ||| 2 ^ k, gs ++ [(k : Int)], _, rfl, rfl, by simpa using HO.out, HE2, HT9, HG9⟩ | exact ⟨_, left ||| 2 ^ k, gs ++ [(k : Int)], rfl, rfl, by simpa using HO.out, HE2, HT9, HG9⟩ | exact ⟨_, left ||| 2 ^ k, rfl, gs ++ [(k : Int)], rfl, by simpa using HO.out, HE2, HT9, HG9⟩ | (trace_state; fail)
          case measure => simp [intOf]; omega
end Go.Proofs.Ytbbdmaakphoofaa
