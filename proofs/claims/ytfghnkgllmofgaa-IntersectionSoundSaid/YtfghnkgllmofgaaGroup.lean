/- The contract of trustquorummake.group: a trust in the own group, or in groups. -/
import Derived.Test.YtfghnkgllmofgaaMost
namespace Go.Proofs.Ytfghnkgllmofgaa
set_option linter.unusedVariables false
set_option linter.unusedSimpArgs false
open Go.RowKit

theorem WF.up {n : Int} : ∀ {d : Nat} {T : Tree}, WF n d T → WF n (d + 1) T
  | 0, _, h => h.elim
  | d + 1, .mk thr ns is, ⟨h1, h2, h3, h4, h5, h6, h7⟩ => ⟨h1, h2, h3, h4, h5, h6, fun T hT => (h7 T hT).up⟩

/-- The world of group. -/
structure GroupAt (w W : World) (g sb B m : Nat) (lv : Value) (ls : List Tree) : Prop where
  res : OutAt W g 0 (.slice none 0 0) (.slice none 0 0)
  tape : TapeOk W sb
  grown : w.grownBy W (some sb)
  inner : Inner B 1 W lv ls
  wf : ∀ T ∈ ls, WF m 1 T
  size : B ≤ W.heap.size

theorem GroupAt.below {w W W' : World} {g sb B m : Nat} {lv : Value} {ls : List Tree} (h : GroupAt w W g sb B m lv ls) (hb : Below W.heap.size W W') : GroupAt w W' g sb B m lv ls :=
  ⟨h.res.keep (hb.block _ h.res.lt), h.tape.below hb, grown_trans h.grown (grown_below hb), h.inner.below hb, h.wf, Nat.le_trans h.size hb.size⟩

/-- A variable of its own and rows behind it may change. -/
theorem GroupAt.own {w W W' : World} {g sb B m xb : Nat} {lv : Value} {ls : List Tree} (h : GroupAt w W g sb B m lv ls) (hg : W.grownBy W' (some xb)) (h0 : sb < g) (h1 : g < xb) (hw : w.heap.size ≤ xb) (hx : B ≤ xb) (hlv : ∀ j, lv.ownBlock = some j → j < xb) (hlow : ∀ q, q ≠ xb → B ≤ q → q < W.heap.size → W'.heap[q]? = W.heap[q]?) (hin : Inner B 1 W' lv ls) : GroupAt w W' g sb B m lv ls :=
  ⟨h.res.keep (hg.block _ h.res.lt (by simp; omega)), h.tape.keepLow (fun q hq => hg.block q (by have := h.tape.lt; omega) (by simp; omega)), gown h.grown hg (fun j hj => by obtain rfl := Option.some.inj hj; exact hw), hin, h.wf, Nat.le_trans h.size hg.size⟩

theorem GroupAt.tapeStep {w W W' : World} {g sb B m : Nat} {lv : Value} {ls : List Tree} (h : GroupAt w W g sb B m lv ls) (hs : TapeOk W' sb) (hg : W.grownBy W' (some sb)) (h0 : sb < g) (h1 : sb < B) : GroupAt w W' g sb B m lv ls :=
  ⟨h.res.keep (hg.block _ h.res.lt (by simp; omega)), hs, grown_trans h.grown hg, h.inner.keep hg (fun j hj => by obtain rfl := Option.some.inj hj; exact h1), h.wf, Nat.le_trans h.size hg.size⟩

theorem nodes_imp' {P Q : Nat → Prop} {w : World} {v : Value} {ns : List Int} (h : NodesAt P w v ns) (hq : ∀ k, P k → Q k) : NodesAt Q w v ns := by
  obtain ⟨A, c, h1, h2⟩ := h
  refine ⟨A, c, h1, fun k hk' => ?_⟩
  obtain ⟨b, off, e1, e2, e3⟩ := h2 k hk'
  exact ⟨b, off, e1, hq _ e2, e3⟩

theorem own_keepG {W W' : World} {B n e size : Nat} {v : Value} {xs : List Value} (h : W.ownsRow B e size v n xs) (hk : ∀ j, v.ownBlock = some j → B ≤ j → j < W.heap.size → W'.heap[j]? = W.heap[j]?) : W'.ownsRow B e size v n xs := by
  refine ⟨h.1, ?_⟩
  rcases h.2 with hn | ⟨g, cap, cur, rfl, hb, hgg, rest⟩
  · exact .inl hn
  · refine .inr ⟨g, cap, cur, rfl, hb, (hk g rfl hb ?_).trans hgg, rest⟩
    rcases Nat.lt_or_ge g W.heap.size with h1 | h1
    · exact h1
    · rw [Array.getElem?_eq_none h1] at hgg; cases hgg

/-- One more trust in the list. -/
theorem group_app {w wo WA W4 : World} {g sb m g4 cap4 : Nat} {lv x1 x2 : Value} {ls : List Tree} {T : Tree} {t : Int} {cs : List Value} (h : GroupAt w wo g sb (g + 1) m lv ls) (hg : w.heap.size = g) (hsl : sb < g) (low : ∀ q, q < wo.heap.size → q ≠ sb → WA.heap[q]? = wo.heap[q]?) (hs : TapeOk WA sb) (hgr : w.grownBy WA (some sb)) (hsz : wo.heap.size ≤ WA.heap.size)
    (hcl : ∀ k T, ls[k]? = some T → ∃ x0 x1 x2, cs[k * 3]? = some x0 ∧ cs[k * 3 + 1]? = some x1 ∧ cs[k * 3 + 2]? = some x2 ∧ TAt (fun b => g + 1 ≤ b ∧ lv.ownBlock ≠ some b) 1 wo x0 x1 x2 T) (hcn : cs.length = ls.length * 3)
    (hT : TAt (fun b => wo.heap.size ≤ b) 1 WA (.int .i64 t) x1 x2 T) (hWF : WF m 1 T)
    (hown4 : W4.ownsRow (g + 1) 49 3 (.slice (some ⟨g4, 0, none⟩) (ls.length + 1) cap4) (ls.length + 1) (cs ++ [.int .i64 t, x1, x2])) (hg4 : WA.grownBy W4 lv.ownBlock) (hat4 : lv.ownBlock = some g4 ∨ g4 = WA.heap.size) :
    GroupAt w W4 g sb (g + 1) m (.slice (some ⟨g4, 0, none⟩) (ls.length + 1) cap4) (ls ++ [T]) := by
  have HOW := h.inner.own
  have hrl := h.res.lt
  have hz4 := hg4.size
  refine ⟨?_, ?_, ?_, ?_, ?_, ?_⟩
  · exact h.res.keep ((hg4.block g (by omega) (fun e => by have := (HOW _ e.symm).1; omega)).trans (low g hrl (by omega)))
  · exact hs.keepLow (fun q hq => hg4.block q (by omega) (fun e => by have := (HOW _ e.symm).1; omega))
  · exact gown hgr hg4 (fun j hj => by have := (HOW j hj).1; omega)
  · refine Inner.append (fun k T hT => ?_) hcn (hT.imp (fun q _ hq => ⟨by have := h.size; omega, fun e => by have := (HOW q e).2; omega⟩)) hown4 hg4 hat4
    obtain ⟨y0, y1, y2, e0, e1, e2, e3⟩ := hcl k T hT
    exact ⟨y0, y1, y2, e0, e1, e2, e3.keep (fun q hq hP => low q hq (by omega))⟩
  · intro S hS
    rcases List.mem_append.1 hS with h1 | h1
    · exact h.wf S h1
    · rw [List.mem_singleton] at h1; rw [h1]; exact hWF
  · have := h.size; omega

set_option maxRecDepth 100000 in
set_option maxHeartbeats 4000000 in
theorem group_run (sb m k : Nat) (hm : 1 ≤ m) (hm1 : m ≤ 10) (hk : k ≤ 10) (w : World) (hs : TapeOk w sb) :
    Calls Try.prog 18 #[.pointer (some ⟨sb, 0, none⟩), .int .i64 m, .int .i64 k] w fun e w' => ∃ (v0 v1 v2 : Value) (T : Tree), e = .returned (.agg #[v0, v1, v2]) ∧ TAt (fun b => w.heap.size ≤ b) 2 w' v0 v1 v2 T ∧ WF m 2 T ∧ TapeOk w' sb ∧ w.grownBy w' (some sb) := by
  obtain ⟨i0, hin, hz0, hz1, hz2⟩ := info_parts infoInt
  obtain ⟨i3, hi3, hy0, hy1, hy2⟩ := info_parts infoTrust
  have hsl := hs.lt
  have hb1 : Below w.heap.size w (w.alloc (.cells #[.int .i64 0, .slice none 0 0, .slice none 0 0] 49)) := balloc (bref w) _
  have k0 : OutAt (w.alloc (.cells #[.int .i64 0, .slice none 0 0, .slice none 0 0] 49)) w.heap.size 0 (.slice none 0 0) (.slice none 0 0) := alloc_at rfl
  have hsz := alloc_sz w (.cells #[.int .i64 0, .slice none 0 0, .slice none 0 0] 49)
  have hGA : GroupAt w (w.alloc (.cells #[.int .i64 0, .slice none 0 0, .slice none 0 0] 49)) w.heap.size sb (w.heap.size + 1) m (.slice none 0 0) [] := ⟨k0, hs.below hb1, grown_below hb1, Inner.nil _ _ _, fun T hT => by simp at hT, by omega⟩
  have HGA := Lib.hid hGA
  clear hs hb1 k0 hGA
  go_enter Try.func18, Try.ntmps18
  go_upto_region 1 with fail
  generalize (w.alloc (.cells #[.int .i64 0, .slice none 0 0, .slice none 0 0] 49)) = W0 at *
  generalize hg : w.heap.size = g at *
  have HG := Lib.hid hg
  clear hg
  go_wp2_with fail
  go_loopw [7, 8] (fun lv t W => ∃ (i : Nat) (ls : List Tree), i ≤ 3 ∧ t = .int .i64 i ∧ ls.length ≤ i ∧ (1 ≤ i → 1 ≤ ls.length) ∧ Hid (GroupAt w W g sb (g + 1) m lv ls)) (fun _ t _ => 3 - (intOf t).toNat)
  case atStart => exact ⟨0, [], by omega, rfl, by simp, fun h => by omega, HGA⟩
  case round =>
    obtain ⟨i, ls, hi, rfl, hl1, hl2, hGr⟩ := hrel
    by_cases hlt : i < 3
    · obtain ⟨wo, hwo⟩ : ∃ x, x = wr := ⟨_, rfl⟩
      subst hwo
      have hlt' : (i : Int) < 3 := by omega
      go_upto_region 6 with fail
      have hba := balloc (bref wo) (.cells #[.int .i64 1, .slice none 0 0, .slice none 0 0] 49)
      have HX1 := Lib.hid (show OutAt (wo.alloc (.cells #[.int .i64 1, .slice none 0 0, .slice none 0 0] 49)) wo.heap.size 1 (.slice none 0 0) (.slice none 0 0) from alloc_at rfl)
      have hsz1 := alloc_sz wo (.cells #[.int .i64 1, .slice none 0 0, .slice none 0 0] 49)
      have hxb : g + 1 ≤ wo.heap.size := hGr.out.size
      have HBA := Lib.hid hba
      clear hba
      generalize wo.alloc (.cells #[.int .i64 1, .slice none 0 0, .slice none 0 0] 49) = W1 at *
      generalize hxw : wo.heap.size = xb at *
      have HXW := Lib.hid hxw
      clear hxw
      go_wp2_with fail
      go_loopw [10] (fun t W => ∃ (j : Nat) (v : Value) (ns : List Int), t = .int .i64 j ∧ j ≤ 12 ∧ W.ownsRow W1.heap.size 3 1 v ns.length (ns.map (Value.int .i64)) ∧ 3 * ns.length ≤ j + 2 ∧ Hid (ns.Nodup ∧ ∀ x ∈ ns, 0 ≤ x ∧ x < (j : Int)) ∧ Hid (∀ x ∈ ns, x < (m : Int)) ∧ (i < j → 1 ≤ ns.length) ∧ (j = i ∨ i < j) ∧ Hid (OutAt W xb 1 v (.slice none 0 0)) ∧ Hid (W1.grownBy W (some xb))) (fun t _ => 13 - (intOf t).toNat)
      case atStart => exact ⟨i, .slice none 0 0, [], rfl, by omega, World.ownsRow_nil _ _ _ _, by simp, Lib.hid ⟨List.nodup_nil, fun x hx => by simp at hx⟩, Lib.hid (fun x hx => by simp at hx), fun h => by omega, .inl rfl, HX1, Lib.hid (World.grownBy.refl _ _)⟩
      case round =>
        obtain ⟨j, v, ns, rfl, hj, hown, hnl, hns, hnm, hij, hji, hO, hW⟩ := hrel
        have hwsz := hW.out.size
        by_cases hjm : j < m
        · obtain ⟨o0, o1, o2⟩ := hO.out.cs
          have of1 := hO.out.fr 1
          have hol := hO.out.lt
          have HOW := Lib.hid (fun (q : Nat) (hq : v.ownBlock = some q) => hown.lt q hq)
          have HNS := Lib.hid (asc_snoc hns.out.1 hns.out.2)
          have HNS2 := Lib.hid (show (ns ++ [(j : Int)]).Nodup ∧ ∀ x ∈ ns ++ [(j : Int)], 0 ≤ x ∧ x < ((j + 3 : Nat) : Int) from ⟨HNS.out.1, fun x hx => by have := HNS.out.2 x hx; omega⟩)
          have HNM2 := Lib.hid (show ∀ x ∈ ns ++ [(j : Int)], x < (m : Int) from fun x hx => by
            rcases List.mem_append.1 hx with h | h
            · exact hnm.out x h
            · rw [List.mem_singleton] at h; omega)
          clear HNS
          go_wp2_with (at_builtin; refine wpList_append_own _ rfl _ _ 22 rfl W1.heap.size 3 i0 (.int .i64 0) 1 8 Try.underlying22 hin hz0 hz1 hz2 rfl (by decide) _ _ _ rfl (hown.alloc _) ⟨_, 0, none⟩ 1 1 [.int .i64 (j : Int)] rfl rfl (cell_one_new _ _ _) (fun u hu => by simp at hu; subst hu; rfl) (by unfold maxLen; omega) (by omega) (by simp; omega) ?_; intro v' W3 hown3 hgrow3 hnil; obtain ⟨gq, cq, rfl, hgq, hlq⟩ := hown3.form (by omega); have hO3 : OutAt W3 xb 1 v (.slice none 0 0) := hO.out.keep ((hgrow3.block _ (by simp; omega) (fun e => by have := (HOW.out _ e.symm).1; omega)).trans (Below.heap_alloc _ _ _ hol)); obtain ⟨r0, r1, r2⟩ := hO3.cs; have rf1 := hO3.fr 1)
          have hgB : (wr.alloc (.cells #[.int .i64 (j : Int)] 3)).grownBy W3 v.ownBlock := ⟨hgrow3.os, hgrow3.tape, hgrow3.output, hgrow3.size, hgrow3.block⟩
          have HW4 := Lib.hid (grown_at (gown (grown_trans hW.out (grown_below (balloc (bref wr) (.cells #[.int .i64 (j : Int)] 3)))) hgB (fun q hq => (HOW.out q hq).1)) 1 (.slice (some ⟨gq, 0, none⟩) (ns.length + 1) cq))
          have HO4 := Lib.hid (hO3.set1 (.slice (some ⟨gq, 0, none⟩) (ns.length + 1) cq))
          have hown4 := Lib.hid ((list_snoc hown3).kept (gset1 W3 ⟨xb, 1, none⟩ (.slice (some ⟨gq, 0, none⟩) (ns.length + 1) cq)) (own_below (list_snoc hown3) (by simp; omega)))
          clear hgB hown3 hgrow3 hnil hgq hlq hO3 r0 r1 r2 rf1
          go_roundw
          case rel =>
            exact ⟨j + 3, _, ns ++ [(j : Int)], by go_num, by omega, by simpa using hown4.out, by simp; omega, HNS2, HNM2, fun _ => by simp, .inr (by omega), HO4, HW4⟩
          case measure => simp [intOf]; omega
        · have hBW : Below xb wo wr := by
            have h1 := HBA.out
            exact h1.grown hW.out (by omega) (fun q hq => by obtain rfl := Option.some.inj hq; omega)
          have HBW := Lib.hid hBW
          clear hBW
          obtain ⟨Av, cv, rfl⟩ := own_slice hown
          obtain ⟨o0, o1, o2⟩ := hO.out.cs
          have of0 := hO.out.fr 0
          have hol := hO.out.lt
          rcases Nat.eq_zero_or_pos ns.length with h0 | h0
          · have hz0' : ¬ (0 : Int) < (ns.length : Int) := by omega
            have HN := Lib.hid (hGr.out.below (by rw [HXW.out]; exact HBW.out))
            clear hown
            go_wp2_with fail
            go_roundw
            case rel => exact ⟨i + 1, ls, by omega, by go_num, by omega, fun _ => by omega, HN⟩
            case measure => simp [intOf]; omega
          · have hz0' : (0 : Int) < (ns.length : Int) := by omega
            have HN := Lib.hid (hGr.out.below (by rw [HXW.out]; exact HBW.out))
            have HOWN := Lib.hid hown
            clear hown
            go_wp2_with fail
            refine (TRange_run _ sb _ _ (by omega) (by omega) (by omega) HN.out.tape).mono ?_
            rintro e W2 ⟨t, ht0, ht1, rfl, hs2, hg2⟩
            have hO2 := hO.out.keep (hg2.block xb hol (by simp; omega))
            have hO3 := hO2.set0 t
            obtain ⟨p0, p1, p2⟩ := hO2.cs
            have pf0 := hO2.fr 0
            obtain ⟨r0, r1, r2⟩ := hO3.cs
            obtain ⟨cs, hcs, hcl⟩ := hGr.out.inner
            have hcn := hcs.1
            have hba := balloc (bref (W2.setCell ⟨xb, 0, none⟩ (.int .i64 t))) (.cells #[.int .i64 t, .slice Av ns.length cv, .slice none 0 0] 49)
            have hzs : (W2.setCell ⟨xb, 0, none⟩ (.int .i64 t)).heap.size = W2.heap.size := by simp only [World.setCell, Array.size_modify]
            have hz2 := hg2.size
            have hlow : ∀ q, q < wo.heap.size → q ≠ sb → ((W2.setCell ⟨xb, 0, none⟩ (.int .i64 t)).alloc (.cells #[.int .i64 t, .slice Av ns.length cv, .slice none 0 0] 49)).heap[q]? = wo.heap[q]? := fun q hq hs => by
              have h1 := HXW.out
              exact (hba.block q (by rw [hzs]; omega)).trans ((Below.heap_setCell _ _ _ _ (by simp; omega)).trans ((hg2.block q (by omega) (by simpa using hs)).trans (HBW.out.block q (by omega))))
            have HCSA := Lib.hid (own_keepG hcs (fun q hq hB hl => hlow q hl (by omega)))
            have own2 := HOWN.out.kept hg2 (own_below HOWN.out (by omega))
            have own3 := own2.kept (gset1 W2 ⟨xb, 0, none⟩ (.int .i64 t)) (own_below own2 (by simp; omega))
            have HNA := NodesAt.of_own (own3.alloc (.cells #[.int .i64 t, .slice Av ns.length cv, .slice none 0 0] 49))
            have hTT : TAt (fun b => wo.heap.size ≤ b) 1 ((W2.setCell ⟨xb, 0, none⟩ (.int .i64 t)).alloc (.cells #[.int .i64 t, .slice Av ns.length cv, .slice none 0 0] 49)) (.int .i64 t) (.slice Av ns.length cv) (.slice none 0 0) (.mk t ns []) := by
              have h1 := HXW.out
              exact ⟨rfl, by omega, by simp, nodes_imp' HNA (fun q hq => by omega), ⟨none, 0, rfl, fun k T hT => by simp at hT⟩⟩
            have hWT : WF m 1 (.mk t ns []) := ⟨ht0, by simp; omega, by omega, by simp, fun x hx => ⟨(hns.out.2 x hx).1, hnm.out x hx⟩, hns.out.1, fun T hT => by simp at hT⟩
            have hTA := (hs2.setCell (p := ⟨xb, 0, none⟩) (by show sb < xb; omega) (.int .i64 t)).below hba
            have hGA := grown_trans (gset (grown_trans HN.out.grown hg2) (p := ⟨xb, 0, none⟩) (by rw [HG.out]; show g ≤ xb; omega) (.int .i64 t)) (grown_below hba)
            have hnew := cell_three_new (W2.setCell ⟨xb, 0, none⟩ (.int .i64 t)) (.int .i64 t) (.slice Av ns.length cv) (.slice none 0 0) 49
            rw [hzs] at hnew
            have HNEW := Lib.hid hnew
            clear hnew
            have HLOW := Lib.hid hlow
            have HTT := Lib.hid hTT
            have HWT := Lib.hid hWT
            have HTA := Lib.hid hTA
            have HGA := Lib.hid hGA
            have hszA : wo.heap.size ≤ ((W2.setCell ⟨xb, 0, none⟩ (.int .i64 t)).alloc (.cells #[.int .i64 t, .slice Av ns.length cv, .slice none 0 0] 49)).heap.size := by rw [alloc_sz, hzs, HXW.out]; omega
            have HSZA := Lib.hid hszA
            have HCL := Lib.hid hcl
            clear hlow hTT hWT hTA hGA hszA hcl hcs own2 own3 HNA hba hO2 hO3 hs2 hg2
            go_wp2_with (at_builtin; refine wpList_append_lies _ rfl _ _ 47 rfl (g + 1) 49 i3 (.agg #[.int .i64 0, .slice none 0 0, .slice none 0 0]) 3 56 Try.underlying47 hi3 hy0 hy1 hy2 rfl (by decide) _ ls.length cs rfl (by exact HCSA.out) ⟨_, 0, none⟩ 1 1 [.int .i64 t, .slice Av ns.length cv, .slice none 0 0] rfl rfl (by exact HNEW.out) (by intro u hu; simp at hu; rcases hu with rfl | rfl | rfl <;> rfl) (by omega) (by unfold maxLen; omega) (by omega) (by have h1 := HSZA.out; rw [HXW.out] at h1; omega) _ rfl ?_; intro g4 cap4 W4 hown4 hgrow4 hat4 hlt4)
            have hpost := group_app hGr.out HG.out hsl HLOW.out HTA.out HGA.out HSZA.out HCL.out hcn HTT.out HWT.out hown4 hgrow4 hat4
            have HP := Lib.hid hpost
            clear hpost hown4 hgrow4 hat4 hlt4
            go_roundw
            case rel => exact ⟨i + 1, ls ++ [.mk t ns []], by omega, by go_num, by simp; omega, fun _ => by simp, HP⟩
            case measure => simp [intOf]; omega
    · obtain rfl : i = 3 := by omega
      have hl3 := hl2 (by omega)
      go_wp2_with fail
      refine (TN_run _ sb _ (by omega) (by omega) hGr.out.tape).mono ?_
      rintro e W2 ⟨r, hr0, hr1, rfl, hs2, hg2⟩
      have HG2 := Lib.hid (hGr.out.tapeStep hs2 hg2 hsl (by omega))
      clear hs2 hg2 hGr
      obtain ⟨cs, hcs, hcl⟩ := HG2.out.inner
      obtain ⟨gl, cl, rfl, hgl, hgl2⟩ := hcs.form (by omega)
      have hgs := HG2.out.size
      have hR := HG2.out.res
      obtain ⟨z0, z1, z2⟩ := hR.cs
      have zf0 := hR.fr 0
      have zf1 := hR.fr 1
      have zf2 := hR.fr 2
      by_cases hr : r = 0
      · subst hr
        obtain ⟨K, hKd⟩ : ∃ K, K = k % ls.length := ⟨_, rfl⟩
        have hK : K < ls.length := by rw [hKd]; exact Nat.mod_lt _ (by omega)
        have hmod : (k : Int).tmod (ls.length : Int) = (K : Int) := by
          rw [Int.tmod_eq_emod_of_nonneg (by omega), hKd]
          push_cast; rfl
        obtain ⟨T, hT⟩ : ∃ T, ls[K]? = some T := ⟨_, List.getElem?_eq_getElem hK⟩
        obtain ⟨x0, x1, x2, e0, e1, e2, e3⟩ := hcl K T hT
        obtain ⟨t', A', n', ca, B', m', cb, rfl, rfl, rfl⟩ := e3.form
        have cc : ∀ j u, cs[j]? = some u → W2.cell? ⟨gl, j, none⟩ = some u := fun j u hu => by
          have := hcs.cells (g := gl) rfl j u hu
          rwa [Addr.add_lit, Nat.zero_add] at this
        have c0 := cc _ _ e0
        have c1 := cc _ _ e1
        have c2 := cc _ _ e2
        have far : ∀ q, q ≠ g → (((W2.setCell ⟨g, 0, none⟩ (.int .i64 t')).setCell ⟨g, 1, none⟩ (.slice A' n' ca)).setCell ⟨g, 2, none⟩ (.slice B' m' cb)).heap[q]? = W2.heap[q]? := fun q hq =>
          (Below.heap_setCell _ _ _ _ (by simpa using hq)).trans ((Below.heap_setCell _ _ _ _ (by simpa using hq)).trans (Below.heap_setCell _ _ _ _ (by simpa using hq)))
        have HE := Lib.hid (show TAt (fun b => w.heap.size ≤ b) 2 (((W2.setCell ⟨g, 0, none⟩ (.int .i64 t')).setCell ⟨g, 1, none⟩ (.slice A' n' ca)).setCell ⟨g, 2, none⟩ (.slice B' m' cb)) (.int .i64 t') (.slice A' n' ca) (.slice B' m' cb) T ∧ WF m 2 T ∧ TapeOk (((W2.setCell ⟨g, 0, none⟩ (.int .i64 t')).setCell ⟨g, 1, none⟩ (.slice A' n' ca)).setCell ⟨g, 2, none⟩ (.slice B' m' cb)) sb ∧ w.grownBy (((W2.setCell ⟨g, 0, none⟩ (.int .i64 t')).setCell ⟨g, 1, none⟩ (.slice A' n' ca)).setCell ⟨g, 2, none⟩ (.slice B' m' cb)) (some sb) from
          ⟨(TAt.both (fun q _ hP => far q (by omega)) (fun q _ hP => by have := HG.out; omega) _ _ _ _ _ e3).up, (HG2.out.wf T (List.mem_of_getElem? hT)).up,
            ((HG2.out.tape.setCell (p := ⟨g, 0, none⟩) (by show sb < g; omega) _).setCell (p := ⟨g, 1, none⟩) (by show sb < g; omega) _).setCell (p := ⟨g, 2, none⟩) (by show sb < g; omega) _,
            gset (gset (gset HG2.out.grown (p := ⟨g, 0, none⟩) (by rw [HG.out]; simp) _) (p := ⟨g, 1, none⟩) (by rw [HG.out]; simp) _) (p := ⟨g, 2, none⟩) (by rw [HG.out]; simp) _⟩)
        obtain ⟨q0, q1, q2⟩ := (((hR.set0 t').set1 (.slice A' n' ca)).set2 (.slice B' m' cb)).cs
        have Q0 := Lib.hid q0
        have Q1 := Lib.hid q1
        have Q2 := Lib.hid q2
        clear hR q0 q1 q2 far cc e0 e1 e2 e3 hcl hcs hT hKd HG2
        go_wp2_with fail
        have q0 := Q0.out
        have q1 := Q1.out
        have q2 := Q2.out
        refine bodyPost_ret (v := .agg #[.int .i64 t', .slice A' n' ca, .slice B' m' cb]) ?_ rfl (by first | exact ⟨_, _, _, T, rfl, HE.out⟩ | exact ⟨_, _, _, rfl, T, HE.out⟩)
        simp [results, Try.results18, go_sem, q0, q1, q2]
      · have hr0' : (r == 0) = false := by simpa using hr
        clear z0 z1 z2 zf0 zf1 zf2 hR hcl hcs
        go_wp2_with fail
        all_goals
          refine (TRange_run _ sb _ _ (by omega) (by omega) (by omega) HG2.out.tape).mono ?_
          rintro e W3 ⟨t, ht0, ht1, rfl, hs3, hg3⟩
          have ht2 : 1 ≤ t := by omega
          have HG3 := Lib.hid (HG2.out.tapeStep hs3 hg3 hsl (by omega))
          have hR := HG3.out.res
          obtain ⟨z0, z1, z2⟩ := hR.cs
          have zf0 := hR.fr 0
          have zf1 := hR.fr 1
          have zf2 := hR.fr 2
          have hIn := ((HG3.out.inner.setLow (p := ⟨g, 0, none⟩) (by simp) (.int .i64 t)).setLow (p := ⟨g, 1, none⟩) (by simp) (.slice none 0 0)).setLow (p := ⟨g, 2, none⟩) (by simp) (.slice (some ⟨gl, 0, none⟩) ls.length cl)
          have hMade : TAt (fun b => w.heap.size ≤ b) 2 (((W3.setCell ⟨g, 0, none⟩ (.int .i64 t)).setCell ⟨g, 1, none⟩ (.slice none 0 0)).setCell ⟨g, 2, none⟩ (.slice (some ⟨gl, 0, none⟩) ls.length cl)) (.int .i64 t) (.slice none 0 0) (.slice (some ⟨gl, 0, none⟩) ls.length cl) (.mk t [] ls) :=
            made (B := g + 1) (fun b hb => by have := HG.out; omega) (by simp) (by omega) (World.ownsRow_nil _ _ _ _) hIn
          have HE := Lib.hid (show TAt (fun b => w.heap.size ≤ b) 2 (((W3.setCell ⟨g, 0, none⟩ (.int .i64 t)).setCell ⟨g, 1, none⟩ (.slice none 0 0)).setCell ⟨g, 2, none⟩ (.slice (some ⟨gl, 0, none⟩) ls.length cl)) (.int .i64 t) (.slice none 0 0) (.slice (some ⟨gl, 0, none⟩) ls.length cl) (.mk t [] ls) ∧ WF m 2 (.mk t [] ls) ∧ TapeOk (((W3.setCell ⟨g, 0, none⟩ (.int .i64 t)).setCell ⟨g, 1, none⟩ (.slice none 0 0)).setCell ⟨g, 2, none⟩ (.slice (some ⟨gl, 0, none⟩) ls.length cl)) sb ∧ w.grownBy (((W3.setCell ⟨g, 0, none⟩ (.int .i64 t)).setCell ⟨g, 1, none⟩ (.slice none 0 0)).setCell ⟨g, 2, none⟩ (.slice (some ⟨gl, 0, none⟩) ls.length cl)) (some sb) from
            ⟨hMade, ⟨ht2, by simp; omega, by simp, by omega, fun x hx => by simp at hx, List.nodup_nil, HG3.out.wf⟩,
              ((HG3.out.tape.setCell (p := ⟨g, 0, none⟩) (by show sb < g; omega) _).setCell (p := ⟨g, 1, none⟩) (by show sb < g; omega) _).setCell (p := ⟨g, 2, none⟩) (by show sb < g; omega) _,
              gset (gset (gset HG3.out.grown (p := ⟨g, 0, none⟩) (by rw [HG.out]; simp) _) (p := ⟨g, 1, none⟩) (by rw [HG.out]; simp) _) (p := ⟨g, 2, none⟩) (by rw [HG.out]; simp) _⟩)
          obtain ⟨q0, q1, q2⟩ := (((hR.set0 t).set1 (.slice none 0 0)).set2 (.slice (some ⟨gl, 0, none⟩) ls.length cl)).cs
          have Q0 := Lib.hid q0
          have Q1 := Lib.hid q1
          have Q2 := Lib.hid q2
          clear hR q0 q1 q2 hMade hIn hs3 hg3 HG2 HG3
          go_wp2_with fail
          all_goals
            have q0 := Q0.out
            have q1 := Q1.out
            have q2 := Q2.out
            refine bodyPost_ret (v := .agg #[.int .i64 t, .slice none 0 0, .slice (some ⟨gl, 0, none⟩) ls.length cl]) ?_ rfl (by first | exact ⟨_, _, _, .mk t [] ls, rfl, HE.out⟩ | exact ⟨_, _, _, rfl, .mk t [] ls, HE.out⟩)
            simp [results, Try.results18, go_sem, q0, q1, q2]

end Go.Proofs.Ytfghnkgllmofgaa
