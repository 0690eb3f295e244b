/- The contract of trustquorummake.trust: a trust over n nodes, of at most deep levels, made from a tape. -/
import Derived.Test.YtfghnkgllmofgaaInner
import Derived.Deep.CutRange
import Derived.Deep.Onto
import Derived.Deep.RegionLaw
namespace Go.Proofs.Ytfghnkgllmofgaa
set_option linter.unusedVariables false
set_option linter.unusedSimpArgs false
open Go.RowKit

theorem ne_own {v : Value} {B sb S : Nat} (h : ∀ j, v.ownBlock = some j → B ≤ j ∧ j < S) (hb : sb < B) : v.ownBlock = none ∨ v.ownBlock ≠ some sb := by
  right; intro e; have := (h sb e).1; omega

theorem own_slice {W : World} {B n : Nat} {v : Value} {xs : List Value} (h : W.ownsRow B 3 1 v n xs) : ∃ A c, v = .slice A n c := by
  rcases h.2 with ⟨hv, h0⟩ | ⟨g, cap, cur, hv, _⟩
  · exact ⟨none, 0, by rw [hv, h0]⟩
  · exact ⟨some ⟨g, 0, none⟩, cap, hv⟩

theorem own_below {W : World} {B n e size : Nat} {v : Value} {xs : List Value} {k : Nat} (h : W.ownsRow B e size v n xs) (hk : k < B) : v.ownBlock = none ∨ v.ownBlock ≠ some k := by
  right; intro e; have := (h.lt k e).1; omega

/-- What the making of a trust is to return. -/
def TrustC (sb n D : Nat) : Prop := ∀ w : World, TapeOk w sb →
  Calls Try.prog 32 #[.pointer (some ⟨sb, 0, none⟩), .int .i64 n, .int .i64 ((D + 1 : Nat) : Int)] w fun e w' => ∃ (v0 v1 v2 : Value) (T : Tree), e = .returned (.agg #[v0, v1, v2]) ∧ TAt (fun b => w.heap.size ≤ b) (D + 1) w' v0 v1 v2 T ∧ WF n (D + 1) T ∧ TapeOk w' sb ∧ w.grownBy w' (some sb)

theorem infoTr : (Try.prog.info? 49).map (fun i => (i.zero, i.size, i.bytes)) = some (some (.agg #[.int .i64 0, .slice none 0 0, .slice none 0 0]), 3, 56) := infoTrust

set_option maxRecDepth 100000 in
set_option maxHeartbeats 4000000 in
theorem trust_step (sb : Nat) (n : Nat) (hn : 1 ≤ n) (hn1 : n ≤ 10) (D : Nat) (hD5 : D ≤ 5) (ih : ∀ d, D = d + 1 → TrustC sb n d) : TrustC sb n D := by
  intro w hs
  obtain ⟨i0, hi, hz0, hz1, hz2⟩ := info_parts infoInt
  have HS := Lib.hid hs
  have hsl := hs.lt
  clear hs
  go_enter Try.func32, Try.ntmps32
  go_wp2_with fail
  refine (Order_run _ sb n hn (by omega) ((HS.out.alloc _).alloc _)).mono ?_
  rintro e w1 ⟨g, cap, rfl, hg0, hg1, hg2, hord, hs1, hgr1⟩
  obtain ⟨zs, zl, znd, zb, zc⟩ := hord.list
  have hgl := hord.lt
  have hout : OutAt w1 (w.heap.size + 1) 0 (.slice none 0 0) (.slice none 0 0) := by
    refine (hgr1.block (w.heap.size + 1) (by simp) (by simp; omega)).trans ?_
    have := heap_alloc_new (w.alloc (.cells #[.int .i64 0, .slice none 0 0, .slice none 0 0] 49)) (.cells #[.int .i64 0, .slice none 0 0, .slice none 0 0] 49)
    simpa using this
  have hres : OutAt w1 w.heap.size 0 (.slice none 0 0) (.slice none 0 0) := by
    refine (hgr1.block w.heap.size (by simp; omega) (by simp; omega)).trans ?_
    rw [Below.heap_alloc _ _ _ (by simp)]
    exact heap_alloc_new _ _
  have hgg : w.grownBy w1 (some sb) := grown_trans (grown_below (balloc (balloc (bref _) _) _)) hgr1
  simp only [World.size_alloc] at hg0
  have HO := Lib.hid hout
  have HR := Lib.hid hres
  have HG := Lib.hid hgg
  have HS1 := Lib.hid hs1
  have HZ := Lib.hid zc
  clear hgr1 hout hres hgg hs1 hord zc
  go_upto_region 3 with fail
  go_cut [20, 21, 22] (fun a b c W => ∃ m : Nat, 1 ≤ m ∧ m ≤ 5 ∧ m ≤ n ∧ a = .slice (some ⟨g, 0, none⟩) m cap ∧ b = .int .i64 m ∧ c = .int .i64 0 ∧ Hid (OutAt W (w.heap.size + 1) 0 (.slice none 0 0) (.slice none 0 0)) ∧ Hid (OutAt W w.heap.size 0 (.slice none 0 0) (.slice none 0 0)) ∧ Hid (w.grownBy W (some sb)) ∧ Hid (TapeOk W sb) ∧ Hid (∀ k, k < n → W.cell? ⟨g, k, none⟩ = some (.int .i64 (zs.getD k 0))) ∧ g < W.heap.size)
  case first =>
    have hcm : cap ≤ 9223372036854775807 := by unfold maxLen at hg2; omega
    go_wp2_with fail
    all_goals
      refine (TRange_run _ sb _ _ (by omega) (by omega) (by omega) HS1.out).mono ?_
      rintro e w2 ⟨r, hr0, hr1, rfl, hs2, hg2'⟩
      obtain ⟨m, rfl⟩ := Int.eq_ofNat_of_zero_le (show 0 ≤ r by omega)
      have E1 := Lib.hid (HO.out.keep (hg2'.block _ HO.out.lt (by simp; omega)))
      have E2 := Lib.hid (HR.out.keep (hg2'.block _ HR.out.lt (by simp; omega)))
      have E3 := Lib.hid (grown_trans HG.out hg2')
      have E4 := Lib.hid hs2
      have E5 := Lib.hid (fun k (hk : k < n) => (World.cell?_of_block (hg2'.block g hgl (by simp; omega))).trans (HZ.out k hk))
      have E6 : g < w2.heap.size := Nat.lt_of_lt_of_le hgl hg2'.size
      have m1 : m ≤ n := by omega
      have m2 : m ≤ 5 := by omega
      have m3 : 1 ≤ m := by omega
      have m4 : m ≤ cap := by omega
      clear hg2' hs2
      go_wp2_with fail
      go_meet
      exact ⟨m, m3, m2, m1, rfl, rfl, rfl, E1, E2, E3, E4, E5, E6⟩
  case rest =>
    obtain ⟨m, m0, m1, m2, rfl, rfl, rfl, HO2, HR2, HG2, HS2, HZ2, hg3⟩ := hcut
    clear HO HR HG HS1 HZ HS
    go_wp2_with fail
    go_loopw [22] (fun t W => ∃ (k : Nat) (v : Value), k ≤ m ∧ t = .int .i64 k ∧ W.ownsRow wc.heap.size 3 1 v k ((zs.take k).map (Value.int .i64)) ∧ Hid (OutAt W (w.heap.size + 1) 0 v (.slice none 0 0)) ∧ Hid (OutAt W w.heap.size 0 (.slice none 0 0) (.slice none 0 0)) ∧ Hid (w.grownBy W (some sb)) ∧ Hid (TapeOk W sb) ∧ Hid (∀ k, k < n → W.cell? ⟨g, k, none⟩ = some (.int .i64 (zs.getD k 0))) ∧ wc.heap.size ≤ W.heap.size) (fun t _ => m - (intOf t).toNat)
    case atStart => exact ⟨0, .slice none 0 0, by omega, rfl, World.ownsRow_nil _ _ _ _, HO2, HR2, HG2, HS2, HZ2, Nat.le_refl _⟩
    case round =>
      obtain ⟨k, v, hk, rfl, hown, hO, hR, hG, hT, hZ, hsz⟩ := hrel
      by_cases hlt : k < m
      · have hcell := hZ.out k (by omega)
        obtain ⟨o0, o1, o2⟩ := hO.out.cs
        have of1 := hO.out.fr 1
        have hol := hO.out.lt
        have ki : (k : Int) < (m : Int) := by omega
        obtain ⟨z, hz⟩ : ∃ z, zs.getD k 0 = z := ⟨_, rfl⟩
        rw [hz] at hcell
        have HZK := Lib.hid hz
        clear hz
        have hwl : wc.heap.size ≤ wc.heap.size := Nat.le_refl _
        have hol2 := HO2.out.lt
        have HOB := Lib.hid (fun (j : Nat) (hj : v.ownBlock = some j) => (hown.lt j hj).1)
        go_wp2_with (at_builtin; refine wpList_append_own _ rfl _ _ 22 rfl wc.heap.size 3 i0 (.int .i64 0) 1 8 Try.underlying22 hi hz0 hz1 hz2 rfl (by decide) _ _ _ rfl (hown.alloc _) ⟨wr.heap.size, 0, none⟩ 1 1 [.int .i64 z] rfl rfl (cell_one_new _ _ _) (fun u hu => by simp at hu; subst hu; rfl) (by unfold maxLen; omega) (by omega) (by simp; omega) ?_; intro v' W2 hown' hgrow hnil; obtain ⟨gq, cq, rfl, hgq, hlq⟩ := hown'.form (by omega); have hO3 := hO.out.keep ((hgrow.block _ (by simp; omega) (fun e => by have := HOB.out _ e.symm; omega)).trans (Below.heap_alloc _ _ _ hol)); obtain ⟨p0, p1, p2⟩ := hO3.cs; have pf1 := hO3.fr 1)
        have hge : ∀ j, v.ownBlock = some j → wc.heap.size ≤ j := HOB.out
        have hlow : ∀ q, q < wc.heap.size → W2.heap[q]? = wr.heap[q]? := fun q hq => (hgrow.block q (by simp; omega) (fun e => by have := hge q e.symm; omega)).trans (Below.heap_alloc _ _ _ (by omega))
        have hsz2 : wc.heap.size ≤ W2.heap.size := by have := hgrow.size; simp at this; omega
        have hlow2 : ∀ q, q < wc.heap.size → q ≠ w.heap.size + 1 → (W2.setCell ⟨w.heap.size + 1, 1, none⟩ (.slice (some ⟨gq, 0, none⟩) (k + 1) cq)).heap[q]? = wr.heap[q]? := fun q hq hne => (Below.heap_setCell _ _ _ _ (by simpa using hne)).trans (hlow q hq)
        have HR3 := Lib.hid (hR.out.keep (hlow2 w.heap.size (by omega) (by omega)))
        have hown3 := gown_step (zs := zs) (k := k) (by omega) (by rw [HZK.out]; exact hown')
        have hown4 := hown3.kept (gset1 W2 ⟨w.heap.size + 1, 1, none⟩ (.slice (some ⟨gq, 0, none⟩) (k + 1) cq)) (.inr (by simp [Value.ownBlock]; omega))
        have HG3 := Lib.hid (gset (gown (grown_trans hG.out (grown_below (balloc (bref wr) (.cells #[.int .i64 z] 3)))) hgrow (fun j hj => by have := hge j hj; omega)) (p := ⟨w.heap.size + 1, 1, none⟩) (by simp) (.slice (some ⟨gq, 0, none⟩) (k + 1) cq))
        have HT3 := Lib.hid ((hT.out.keepLow (fun q hq => hlow q (by omega))).setCell (p := ⟨w.heap.size + 1, 1, none⟩) (by simp; omega) (.slice (some ⟨gq, 0, none⟩) (k + 1) cq))
        have HZ3 := Lib.hid (fun q (hq : q < n) => (World.cell?_of_block (hlow2 g hg3 (by omega))).trans (hZ.out q hq))
        have HO4 := Lib.hid (hO3.set1 (.slice (some ⟨gq, 0, none⟩) (k + 1) cq))
        go_roundw
        case rel => exact ⟨k + 1, _, by omega, by go_num, hown4, HO4, HR3, HG3, HT3, HZ3, by simpa [World.setCell] using hsz2⟩
        case measure => simp [intOf]; omega
      · obtain rfl : k = m := by omega
        obtain ⟨gq, cq, rfl, hgq, hlq⟩ := hown.form (by omega)
        obtain ⟨o0, o1, o2⟩ := hO.out.cs
        have of0 := hO.out.fr 0
        have hol := hO.out.lt
        have HW := Lib.hid hown
        clear hown
        have hsz0 : wc.heap.size ≤ wr.heap.size := hsz
        have hol2 := HO2.out.lt
        clear hsz HO2 HR2 HG2 HS2 HZ2
        go_upto_if 34 with fail
        have hB : w.heap.size + 2 ≤ wc.heap.size := by omega
        have HX := Lib.hid (HW.out.mono hB)
        have hlk : (zs.take k).length = k := by rw [List.length_take]; omega
        have HNS := Lib.hid (show (∀ x ∈ zs.take k, 0 ≤ x ∧ x < (n : Int)) ∧ (zs.take k).Nodup from ⟨fun x hx => zb x (List.mem_of_mem_take hx), List.Nodup.sublist (List.take_sublist _ _) znd⟩)
        go_cut [11] (fun a W => ∃ (v1 v2 : Value) (ns : List Int) (is : List Tree), 1 ≤ ns.length + is.length ∧ ns.length ≤ 5 ∧ is.length ≤ 3 ∧ Hid (OutAt W (w.heap.size + 1) 0 v1 v2) ∧ Hid (OutAt W w.heap.size 0 (.slice none 0 0) (.slice none 0 0)) ∧ Hid (w.grownBy W (some sb)) ∧ Hid (TapeOk W sb) ∧
          Hid (W.ownsRow (w.heap.size + 2) 3 1 v1 ns.length (ns.map (Value.int .i64))) ∧ Hid (Inner (w.heap.size + 2) D W v2 is) ∧ Hid ((∀ x ∈ ns, 0 ≤ x ∧ x < (n : Int)) ∧ ns.Nodup) ∧ Hid (∀ T ∈ is, WF n D T))
        case first =>
          rcases D with _ | D
          · go_wp2_with fail
            go_meet
            exact ⟨_, _, zs.take k, [], by rw [hlk]; simp; omega, by rw [hlk]; omega, by simp, hO, hR, hG, hT, by rw [hlk]; exact HX, Lib.hid (Inner.nil _ _ _), HNS, Lib.hid (fun T hT => by simp at hT)⟩
          · have HC := Lib.hid (ih D rfl)
            have hDz : (1 : Int) < ((D + 1 + 1 : Nat) : Int) := by omega
            clear HW
            go_wp2_with fail
            have hp6 : ∀ j, j < 6 → (wr.alloc (.cells #[.int .i64 0, .int .i64 0, .int .i64 1, .int .i64 1, .int .i64 2, .int .i64 3] 3)).cell? ⟨wr.heap.size, j, none⟩ = some (.int .i64 (([0, 0, 1, 1, 2, 3] : List Int).getD j 0)) := by
              intro j hj
              rw [cell_of_row _ _ j _ _ (0, 0) (heap_alloc_new _ _)]
              match j, hj with
              | 0, _ | 1, _ | 2, _ | 3, _ | 4, _ | 5, _ => rfl
            have hsb : wr.heap.size ≠ sb := by have := hT.out.lt; omega
            refine (TPick_run _ sb wr.heap.size [0, 0, 1, 1, 2, 3] 6 rfl (by omega) (by omega) hp6 hsb (hT.out.alloc _)).mono ?_
            rintro e W1 ⟨j, hj, rfl, hs1, hg1⟩
            obtain ⟨q, hq, hq3⟩ : ∃ q : Nat, ([0, 0, 1, 1, 2, 3] : List Int).getD j 0 = (q : Int) ∧ q ≤ 3 := by
              match j, hj with
              | 0, _ => exact ⟨0, rfl, by omega⟩
              | 1, _ => exact ⟨0, rfl, by omega⟩
              | 2, _ => exact ⟨1, rfl, by omega⟩
              | 3, _ => exact ⟨1, rfl, by omega⟩
              | 4, _ => exact ⟨2, rfl, by omega⟩
              | 5, _ => exact ⟨3, rfl, by omega⟩
            rw [hq]
            have hba := balloc (bref wr) (.cells #[.int .i64 0, .int .i64 0, .int .i64 1, .int .i64 1, .int .i64 2, .int .i64 3] 3)
            have hgq := grown_trans (grown_below (r := some sb) hba) hg1
            have HO1 := Lib.hid (hO.out.keep (hgq.block _ hol (by simp; omega)))
            have HR1 := Lib.hid (hR.out.keep (hgq.block _ hR.out.lt (by simp; omega)))
            have HG1 := Lib.hid (grown_trans hG.out hgq)
            have HX1 := Lib.hid (HX.out.kept hgq (.inr (by simp [Value.ownBlock]; omega)))
            have HS1' := Lib.hid hs1
            clear hp6 hq hj hs1 hg1 hgq hba HX hO hR hG hT
            go_wp2_with fail
            go_loopw [11] (fun t W => ∃ (q : Nat) (v2 : Value) (is : List Tree), is.length + q ≤ 3 ∧ t = .int .i64 q ∧ Hid (OutAt W (w.heap.size + 1) 0 (.slice (some ⟨gq, 0, none⟩) k cq) v2) ∧ Hid (OutAt W w.heap.size 0 (.slice none 0 0) (.slice none 0 0)) ∧ Hid (w.grownBy W (some sb)) ∧ Hid (TapeOk W sb) ∧
              Hid (W.ownsRow (w.heap.size + 2) 3 1 (.slice (some ⟨gq, 0, none⟩) k cq) k ((zs.take k).map (Value.int .i64))) ∧ Hid (Inner (w.heap.size + 2) (D + 1) W v2 is) ∧ Hid (∀ T ∈ is, WF n (D + 1) T)) (fun t _ => (intOf t).toNat)
            case atStart => exact ⟨q, .slice none 0 0, [], by simpa using hq3, rfl, HO1, HR1, HG1, HS1', HX1, Lib.hid (Inner.nil _ _ _), Lib.hid (fun T hT => by simp at hT)⟩
            case round =>
              clear HO1 HR1 HG1 HS1' HX1
              obtain ⟨q, v2, is, hq3, rfl, hO, hR, hG, hT, hX, hI, hW⟩ := hrel
              obtain ⟨o0, o1, o2⟩ := hO.out.cs
              have of2 := hO.out.fr 2
              have hol := hO.out.lt
              by_cases hpos : 0 < q
              · go_upto_region 12 with fail
                obtain ⟨cs, hcs, hcl⟩ := hI.out
                have hcn := hcs.1
                have HCS := Lib.hid hcs
                have HCL := Lib.hid hcl
                have hown := hI.out.own
                have HOW := Lib.hid hown
                obtain ⟨i3, hi3, hy0, hy1, hy2⟩ := info_parts infoTrust
                clear hcs hcl hown
                have hsl3 := hT.out.lt
                have hwrap : IntKind.i64.wrap ((D : Int) + 1) = (D : Int) + 1 := IntWalk.i64_in _ (by omega)
                go_region_law (first
                  | (go_simp; go_at_call 32; refine (HC.out _ (by exact hT.out)).mono ?_; rintro e W2 ⟨x0, x1, x2, T, rfl, hTT, hWF, hs2, hg2⟩; obtain ⟨y0, A1, n1, c1, A2, n2, c2, rfl, rfl, rfl⟩ := hTT.form; have hgr2 : wr.grownBy W2 (some sb) := ⟨hg2.os, hg2.tape, hg2.output, hg2.size, hg2.block⟩; have hgz := hgr2.size; have hO2 : OutAt W2 (w.heap.size + 1) 0 (.slice (some ⟨gq, 0, none⟩) k cq) v2 := hO.out.keep (hg2.block _ hol (by simp; omega)); obtain ⟨p0, p1, p2⟩ := hO2.cs; have hol2 := hO2.lt)
                  | (refine step_append_lies _ (by rfl) _ _ _ (by rfl) (w.heap.size + 2) 49 i3 (.agg #[.int .i64 0, .slice none 0 0, .slice none 0 0]) 3 56 Try.underlying47 hi3 hy0 hy1 hy2 rfl (by decide) v2 is.length cs (by rfl) (by exact ((HCS.out.kept hgr2 (ne_own HOW.out (by omega))).alloc _)) ⟨W2.heap.size, 0, none⟩ 1 1 [.int .i64 y0, .slice A1 n1 c1, .slice A2 n2 c2] (by rfl) rfl (by exact cell_three_new _ _ _ _ _) (by intro u hu; simp at hu; rcases hu with rfl | rfl | rfl <;> rfl) (by omega) (by unfold maxLen; omega) (by omega) (by simp; omega) _ rfl ?_; intro g3 cap3 W3 hown3 hgrow3 hat3 hlt3; have hO3 : OutAt W3 (w.heap.size + 1) 0 (.slice (some ⟨gq, 0, none⟩) k cq) v2 := hO2.keep ((hgrow3.block _ (by simp; omega) (fun e => by have := HOW.out _ e.symm; omega)).trans (Below.heap_alloc _ _ _ hol2)); obtain ⟨r0, r1, r2⟩ := hO3.cs; have rf2 := hO3.fr 2))
                all_goals
                  have HI3 := Lib.hid (Inner.append (W := W2.alloc (.cells #[.int .i64 y0, .slice A1 n1 c1, .slice A2 n2 c2] 49)) (fun k T hT => by
                    obtain ⟨z0, z1, z2, e0, e1, e2, e3⟩ := HCL.out k T hT
                    exact ⟨z0, z1, z2, e0, e1, e2, TAt.below (TAt.keep (w := wr) (w' := W2) (fun q hq hP => hgr2.block q hq (by simp; omega)) e3) (balloc (bref _) _)⟩) hcn
                    (TAt.below (TAt.imp (fun q _ hq => ⟨by simp at hq; omega, fun e => by have := HOW.out q e; simp at hq; omega⟩) hTT) (balloc (bref _) _)) hown3 ⟨hgrow3.os, hgrow3.tape, hgrow3.output, hgrow3.size, hgrow3.block⟩ (by simpa using hat3))
                  have hgA : wr.grownBy (W2.alloc (.cells #[.int .i64 y0, .slice A1 n1 c1, .slice A2 n2 c2] 49)) (some sb) := grown_trans hgr2 (grown_below (balloc (bref _) _))
                  have hgB : (W2.alloc (.cells #[.int .i64 y0, .slice A1 n1 c1, .slice A2 n2 c2] 49)).grownBy W3 v2.ownBlock := ⟨hgrow3.os, hgrow3.tape, hgrow3.output, hgrow3.size, hgrow3.block⟩
                  have hzA := hgA.size
                  have hlowA : ∀ j, j < w.heap.size + 2 → j ≠ sb → W3.heap[j]? = wr.heap[j]? := fun j hj hne =>
                    (hgB.block j (by omega) (fun e => by have := HOW.out _ e.symm; omega)).trans (hgA.block j (by omega) (by simpa using hne))
                  have HO4 := Lib.hid (hO3.set2 (.slice (some ⟨g3, 0, none⟩) (is.length + 1) cap3))
                  have HR4 := Lib.hid (hR.out.keep ((Below.heap_setCell W3 ⟨w.heap.size + 1, 2, none⟩ (.slice (some ⟨g3, 0, none⟩) (is.length + 1) cap3) w.heap.size (by simp)).trans (hlowA w.heap.size (by omega) (by omega))))
                  have HG4 := Lib.hid (gset (gown (grown_trans hG.out hgA) hgB (fun j hj => by have := HOW.out j hj; omega)) (p := ⟨w.heap.size + 1, 2, none⟩) (by simp) (.slice (some ⟨g3, 0, none⟩) (is.length + 1) cap3))
                  have HT4 := Lib.hid (((hs2.alloc (.cells #[.int .i64 y0, .slice A1 n1 c1, .slice A2 n2 c2] 49)).keepLow (fun j hj => hgB.block j (by simp; omega) (fun e => by have := HOW.out _ e.symm; omega))).setCell (p := ⟨w.heap.size + 1, 2, none⟩) (by simp; omega) (.slice (some ⟨g3, 0, none⟩) (is.length + 1) cap3))
                  have hXA := hX.out.kept hgA (.inr (by simp [Value.ownBlock]; omega))
                  have HX4 := Lib.hid ((hXA.kept hgB (own_apart hXA (HCS.out.kept hgA (ne_own HOW.out (by omega))))).kept (gset1 W3 ⟨w.heap.size + 1, 2, none⟩ (.slice (some ⟨g3, 0, none⟩) (is.length + 1) cap3)) (.inr (by simp [Value.ownBlock]; omega)))
                  have HI4 := Lib.hid (HI3.out.setLow (p := ⟨w.heap.size + 1, 2, none⟩) (by simp) (.slice (some ⟨g3, 0, none⟩) (is.length + 1) cap3))
                  have HW4 := Lib.hid (show ∀ S ∈ is ++ [T], WF n (D + 1) S from fun S hS => by
                    rcases List.mem_append.1 hS with hS | hS
                    · exact hW.out S hS
                    · rw [List.mem_singleton] at hS; subst hS; exact hWF)
                  clear hgA hgB hlowA hXA hown3 hgrow3 hat3 hlt3 hO3 r0 r1 r2 rf2 hTT hWF hs2 hg2 hgr2 hO2 p0 p1 p2
                  go_wp2_with fail
                  go_roundw
                  case rel => exact ⟨q - 1, _, is ++ [T], by simp; omega, by go_num, HO4, HR4, HG4, HT4, HX4, by first | exact HI4 | simpa using HI4, HW4⟩
                  case measure => simp [intOf]; try omega
              · obtain rfl : q = 0 := by omega
                obtain ⟨A2, c2, rfl⟩ := hI.out.slice
                have o1f := hO.out.fr 1
                have HNL := Lib.hid hlk
                by_cases his : is.length = 0
                · have hi0 : ¬ (0 : Int) < (is.length : Int) := by omega
                  clear hpos
                  go_wp2_with fail
                  go_meet
                  exact ⟨_, _, zs.take k, is, by rw [HNL.out]; omega, by rw [HNL.out]; omega, by omega, hO, hR, hG, hT, by rw [HNL.out]; exact hX, hI, HNS, hW⟩
                · have hi0 : (0 : Int) < (is.length : Int) := by omega
                  clear hpos
                  go_wp2_with fail
                  refine (TN_run _ sb _ (by omega) (by omega) hT.out).mono ?_
                  rintro e W2 ⟨r, hr0, hr1, rfl, hs2, hg2⟩
                  have hO2 := hO.out.keep (hg2.block _ hol (by simp; omega))
                  obtain ⟨p0, p1, p2⟩ := hO2.cs
                  have pf1 := hO2.fr 1
                  have HO2' := Lib.hid hO2
                  have HR2' := Lib.hid (hR.out.keep (hg2.block _ hR.out.lt (by simp; omega)))
                  have HG2' := Lib.hid (grown_trans hG.out hg2)
                  have HT2' := Lib.hid hs2
                  have HX2' := Lib.hid (hX.out.kept hg2 (.inr (by simp [Value.ownBlock]; omega)))
                  have HI2' := Lib.hid (hI.out.keep hg2 (fun j hj => by obtain rfl := Option.some.inj hj; omega))
                  clear hO2 hs2 hg2 hO hR hG hT hX hI o0 o1 o2 of2 o1f
                  by_cases hr : r = 0
                  · subst hr
                    go_wp2_with fail
                    go_meet
                    exact ⟨_, _, [], is, by simp; omega, by simp, by omega, Lib.hid (HO2'.out.set1 _), Lib.hid (HR2'.out.keep (Below.heap_setCell _ ⟨w.heap.size + 1, 1, none⟩ _ w.heap.size (by simp))), Lib.hid (gset HG2'.out (p := ⟨w.heap.size + 1, 1, none⟩) (by simp) _), Lib.hid (HT2'.out.setCell (p := ⟨w.heap.size + 1, 1, none⟩) (by simp; omega) _), Lib.hid (World.ownsRow_nil _ _ _ _), Lib.hid (HI2'.out.setLow (p := ⟨w.heap.size + 1, 1, none⟩) (by simp) _), Lib.hid ⟨by simp, List.nodup_nil⟩, hW⟩
                  · have hr' : (r == 0) = false := by simpa using hr
                    clear hr
                    go_wp2_with fail
                    go_meet
                    exact ⟨_, _, zs.take k, is, by rw [HNL.out]; omega, by rw [HNL.out]; omega, by omega, HO2', HR2', HG2', HT2', by rw [HNL.out]; exact HX2', HI2', HNS, hW⟩
        case rest =>
          obtain ⟨v1, v2, ns, is, hb0, hb1, hb2, hO, hR, hG, hT, h1, h2, h3, h4⟩ := hcut
          obtain ⟨A1, c1, rfl⟩ := own_slice h1.out
          obtain ⟨A2, c2, rfl⟩ := h2.out.slice
          obtain ⟨o0, o1, o2⟩ := hO.out.cs
          have of0 := hO.out.fr 0
          have hol := hO.out.lt
          clear HW hlk HX HNS ih
          go_wp2_with fail
          refine (TRange_run _ sb _ _ (by omega) (by omega) (by omega) hT.out).mono ?_
          rintro e W2 ⟨t, ht0, ht1, rfl, hs2, hg2'⟩
          have hO3 := hO.out.keep (hg2'.block _ hol (by simp; omega))
          have hR3 := hR.out.keep (hg2'.block _ hR.out.lt (by simp; omega))
          obtain ⟨p0, p1, p2⟩ := hO3.cs
          have pf0 := hO3.fr 0
          obtain ⟨r0, r1, r2⟩ := hR3.cs
          have rf0 := hR3.fr 0
          have rf1 := hR3.fr 1
          have rf2 := hR3.fr 2
          have HRX := Lib.hid hR3
          have HG3 := Lib.hid (grown_trans hG.out hg2')
          have H1 := Lib.hid (h1.out.kept hg2' (own_below h1.out (by omega)))
          have H2 := Lib.hid (h2.out.keep hg2' (fun j hj => by obtain rfl := Option.some.inj hj; omega))
          have HS3 := Lib.hid hs2
          clear hs2 hg2' hO3 hR3 hO hR hG h1 h2
          go_wp2_with fail
          have K1 := ((((H1.out.kept (gset1 W2 ⟨w.heap.size + 1, 0, none⟩ (.int .i64 t)) (own_below H1.out (by simp))).kept (gset1 _ ⟨w.heap.size, 0, none⟩ (.int .i64 t)) (own_below H1.out (by simp))).kept (gset1 _ ⟨w.heap.size, 1, none⟩ (.slice A1 ns.length c1)) (own_below H1.out (by simp))).kept (gset1 _ ⟨w.heap.size, 2, none⟩ (.slice A2 is.length c2)) (own_below H1.out (by simp)))
          have K2 := (((H2.out.setLow (p := ⟨w.heap.size + 1, 0, none⟩) (by simp) (.int .i64 t)).setLow (p := ⟨w.heap.size, 0, none⟩) (by simp) (.int .i64 t)).setLow (p := ⟨w.heap.size, 1, none⟩) (by simp) (.slice A1 ns.length c1)).setLow (p := ⟨w.heap.size, 2, none⟩) (by simp) (.slice A2 is.length c2)
          refine bodyPost_ret (v := .agg #[.int .i64 t, .slice A1 ns.length c1, .slice A2 is.length c2]) ?_ rfl ⟨_, _, _, .mk t ns is, rfl, made (fun b hb => by omega) (by omega) (by omega) K1 K2, ?_, ?_, ?_⟩
          · simp [results, Try.results32, go_sem, r0, r1, r2]
          · exact ⟨ht0, by push_cast; omega, by omega, hb2, h3.out.1, h3.out.2, h4.out⟩
          · exact (((HS3.out.setCell (p := ⟨w.heap.size + 1, 0, none⟩) (by simp; omega) _).setCell (p := ⟨w.heap.size, 0, none⟩) (by simp; omega) _).setCell (p := ⟨w.heap.size, 1, none⟩) (by simp; omega) _).setCell (p := ⟨w.heap.size, 2, none⟩) (by simp; omega) _
          · exact gset (gset (gset (gset HG3.out (p := ⟨w.heap.size + 1, 0, none⟩) (by simp) _) (p := ⟨w.heap.size, 0, none⟩) (by simp) _) (p := ⟨w.heap.size, 1, none⟩) (by simp) _) (p := ⟨w.heap.size, 2, none⟩) (by simp) _

/-- THE CONTRACT, for each number of levels. -/
theorem trust_run (sb n : Nat) (hn : 1 ≤ n) (hn1 : n ≤ 10) : ∀ D, D ≤ 5 → TrustC sb n D
  | 0, h => trust_step sb n hn hn1 0 h (fun d e => by cases e)
  | D + 1, h => trust_step sb n hn hn1 (D + 1) h (fun d e => by cases e; exact trust_run sb n hn hn1 D (by omega))

end Go.Proofs.Ytfghnkgllmofgaa
