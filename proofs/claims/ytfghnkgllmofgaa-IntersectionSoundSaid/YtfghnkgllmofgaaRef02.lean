/- The contracts of the reference's check and Valid, and of trustquorummake.Trust. -/
import Derived.Test.YtfghnkgllmofgaaRef01
import Derived.Deep.CutRange
namespace Go.Proofs.Ytfghnkgllmofgaa
set_option linter.unusedVariables false
set_option linter.unusedSimpArgs false
open Go.RowKit

theorem WF.inR {n : Int} (hn : n ≤ 10) {d : Nat} {thr : Int} {ns : List Int} {is : List Tree} (h : WF n (d + 1) (.mk thr ns is)) : InR ns := fun x hx => by
  have := h.2.2.2.2.1 x hx
  omega

set_option maxHeartbeats 4000000 in
theorem rcheck_run (P : Nat → Prop) (n : Int) (hn10 : n ≤ 10) : ∀ (d : Nat) (T : Tree) (v0 v1 v2 : Value) (w : World), TAt P d w v0 v1 v2 T → WF n d T →
    Calls Try.prog 52 #[.agg #[v0, v1, v2]] w fun e w' => e = .returned (.int .i64 0) ∧ Below w.heap.size w w' := by
  intro d
  induction d with
  | zero => intro T v0 v1 v2 w h; exact h.elim
  | succ d ih =>
    intro T v0 v1 v2 w h hW
    obtain ⟨thr, ns, is⟩ := T
    obtain ⟨A, c, B, c', rfl, rfl, rfl, hn, hi, hbx⟩ := h.boxed
    have hinr := hW.inR hn10
    obtain ⟨ht0, ht1, hl5, hl3, hr, hnd, hWi⟩ := hW
    have HBX := Lib.hid hbx
    have HB1 := Lib.hid (balloc (bref w) (.cells #[.int .i64 thr, .slice A ns.length c, .slice B is.length c'] 49))
    have IH := Lib.hid ih
    have HIN := Lib.hid hinr
    have HND := Lib.hid hnd
    have HWI := Lib.hid hWi
    have hthr : thr ≤ (ns.length : Int) + (is.length : Int) := by push_cast at ht1; exact ht1
    clear h hbx ih hr hnd hWi hinr ht1
    go_enter Try.func52, Try.ntmps52
    go_upto_region 1 with fail
    generalize w.alloc (.cells #[.int .i64 thr, .slice A ns.length c, .slice B is.length c'] 49) = W1 at *
    generalize hg : w.heap.size = g at *
    have hgw := Lib.hid hg
    clear hg
    have c0 := HBX.out.c0
    have c1 := HBX.out.c1
    have c2 := HBX.out.c2
    go_wp2_with fail
    go_loop [28] (fun t => ∃ (k : Nat), k ≤ ns.length ∧ t = .int .i64 k) (fun t => ns.length - (intOf t).toNat)
    case atStart => exact ⟨0, by omega, rfl⟩
    case round =>
      obtain ⟨k, hk, rfl⟩ := hrel
      by_cases hlt : k < ns.length
      · obtain ⟨b, off, rfl, hc⟩ := HBX.out.nodes k hlt
        have hx0 : ns[k]? = some (ns.getD k 0) := by rw [List.getD_eq_getElem?_getD, List.getElem?_eq_getElem hlt]; rfl
        obtain ⟨x0, x1⟩ := HIN.out _ (List.mem_of_getElem? hx0)
        clear hx0
        generalize ns.getD k 0 = x at *
        go_wp2_with fail
        go_round
        case rel => exact ⟨k + 1, by omega, by go_num⟩
        case measure => simp [intOf]; omega
      · obtain rfl : k = ns.length := by omega
        go_wp2_with fail
        refine (rof_run A c ns _ hn HIN.out HND.out HBX.out.nodes).mono ?_
        rintro e w2 ⟨rfl, rfl⟩
        generalize nodesS ns = sns at *
        go_wp2_with fail
        go_loopw [51] (fun t wr => ∃ (k : Nat), k ≤ is.length ∧ t = .int .i64 k ∧ Hid (Below W1.heap.size W1 wr)) (fun t _ => is.length - (intOf t).toNat)
        case atStart => exact ⟨0, by omega, rfl, Lib.hid (bref _)⟩
        case round =>
          obtain ⟨k, hk, rfl, hBr⟩ := hrel
          by_cases hlt : k < is.length
          · obtain ⟨T, hT⟩ : ∃ T, is[k]? = some T := ⟨_, List.getElem?_eq_getElem hlt⟩
            obtain ⟨b, off, t', A', n', ca, B', m', cb, rfl, hlb, e0, e1, e2, hTk⟩ := (HBX.out.below hBr.out).inner k T hT
            have hWT := Lib.hid (HWI.out T (List.mem_of_getElem? hT))
            have hTr := Lib.hid (hTk.below (balloc (bref wr) (.cells #[.int .i64 t', .slice A' n' ca, .slice B' m' cb] 49)))
            have hBa := Lib.hid (balloc hBr.out (.cells #[.int .i64 t', .slice A' n' ca, .slice B' m' cb] 49))
            clear hT hTk
            go_wp2_with fail
            refine (IH.out T _ _ _ _ hTr.out hWT.out).mono ?_
            rintro e w2 ⟨rfl, hb2⟩
            have hB2 := Lib.hid (bstep hBa.out hb2)
            clear hb2
            go_wp2_with fail
            go_roundw
            case rel => exact ⟨k + 1, by omega, by go_num, hB2⟩
            case measure => simp [intOf]; omega
          · obtain rfl : k = is.length := by omega
            go_wp2_with fail
            go_ret
            exact ⟨rfl, by have h1 := HB1.out; rw [← hgw.out] at h1; exact bstep h1 hBr.out⟩

theorem sum_le_mul : ∀ (l : List Nat) (B : Nat), (∀ x ∈ l, x ≤ B) → l.sum ≤ l.length * B
  | [], B, _ => by simp
  | x :: l, B, h => by
    have h1 := h x List.mem_cons_self
    have h2 := sum_le_mul l B (fun y hy => h y (List.mem_cons_of_mem _ hy))
    simp only [List.sum_cons, List.length_cons, Nat.add_mul, Nat.one_mul]
    omega

theorem WF.size {n : Int} : ∀ (d : Nat) (T : Tree), WF n d T → sizeT d T ≤ 16 * 4 ^ d
  | 0, _, h => h.elim
  | d + 1, .mk thr ns is, h => by
    obtain ⟨_, _, h5, h3, _, _, hi⟩ := h
    have h1 := sum_le_mul (is.map (sizeT d)) (16 * 4 ^ d) (fun x hx => by obtain ⟨T, hT, rfl⟩ := List.mem_map.1 hx; exact WF.size d T (hi T hT))
    rw [List.length_map] at h1
    have h2 : is.length * (16 * 4 ^ d) ≤ 3 * (16 * 4 ^ d) := Nat.mul_le_mul_right _ h3
    have h6 : 1 ≤ 4 ^ d := Nat.one_le_pow _ _ (by omega)
    show ns.length + is.length + (is.map (sizeT d)).sum ≤ 16 * 4 ^ (d + 1)
    rw [Nat.pow_succ]
    omega

theorem WF.size4 {n : Int} {d : Nat} {T : Tree} (h : WF n d T) (hd : d ≤ 4) : sizeT d T ≤ 4096 := by
  have h1 := WF.size d T h
  have h2 : 4 ^ d ≤ 4 ^ 4 := Nat.pow_le_pow_right (by omega) hd
  omega

set_option maxHeartbeats 2000000 in
theorem rvalid_run (P : Nat → Prop) (n : Int) (hn10 : n ≤ 10) (d : Nat) (hd : d ≤ 4) (T : Tree) (v0 v1 v2 : Value) (w : World) (h : TAt P d w v0 v1 v2 T) (hW : WF n d T) :
    Calls Try.prog 33 #[.agg #[v0, v1, v2]] w fun e w' => (e = .returned (.int .i64 0) ∧ sizeT d T ≤ 200 ∨ e = .returned (.int .i64 3)) ∧ Below w.heap.size w w' := by
  obtain ⟨t', A', n', ca, B', m', cb, rfl, rfl, rfl⟩ := h.form
  have hT := Lib.hid (h.below (balloc (bref w) (.cells #[.int .i64 t', .slice A' n' ca, .slice B' m' cb] 49)))
  have HW := Lib.hid hW
  have hdl := Nat.le_trans (depthT_le d T) hd
  have hsz := hW.size4 hd
  clear h hW
  go_enter Try.func33, Try.ntmps33
  have hbox : (w.alloc (.cells #[.int .i64 t', .slice A' n' ca, .slice B' m' cb] 49)).heap[w.heap.size]? = some (.cells #[.int .i64 t', .slice A' n' ca, .slice B' m' cb] 49 (0, 0)) := heap_alloc_new _ _
  have HBX := Lib.hid hbox
  have HB1 := Lib.hid (balloc (bref w) (.cells #[.int .i64 t', .slice A' n' ca, .slice B' m' cb] 49))
  clear hbox
  go_upto_region 1 with fail
  generalize w.alloc (.cells #[.int .i64 t', .slice A' n' ca, .slice B' m' cb] 49) = W1 at *
  generalize hg : w.heap.size = g at *
  have hgw := Lib.hid hg
  clear hg
  have c0 : W1.cell? ⟨g, 0, none⟩ = some (.int .i64 t') := cell_of_row _ _ 0 _ _ (0, 0) HBX.out
  have c1 : W1.cell? ⟨g, 1, none⟩ = some (.slice A' n' ca) := cell_of_row _ _ 1 _ _ (0, 0) HBX.out
  have c2 : W1.cell? ⟨g, 2, none⟩ = some (.slice B' m' cb) := cell_of_row _ _ 2 _ _ (0, 0) HBX.out
  have hgl : g < W1.heap.size := cell_lt c0
  generalize hdz : depthT d T = dz at *
  generalize hzz : sizeT d T = zz at *
  have HDZ := Lib.hid hdz
  have HZZ := Lib.hid hzz
  clear hdz hzz
  go_wp2_with fail
  refine (rdepth_run P d T _ _ _ _ (by omega) hT.out).mono ?_
  rintro e w2 ⟨rfl, hb2⟩
  rw [HDZ.out]
  have a0 := (hb2.cell (p := ⟨g, 0, none⟩) hgl).trans c0
  have a1 := (hb2.cell (p := ⟨g, 1, none⟩) hgl).trans c1
  have a2 := (hb2.cell (p := ⟨g, 2, none⟩) hgl).trans c2
  have hT2 := Lib.hid (hT.out.below hb2)
  have HB2 := Lib.hid hb2
  have hgl2 := cell_lt a0
  clear hb2
  go_wp2_with fail
  refine (rsize_run P d T _ _ _ _ hT2.out (by rw [HZZ.out]; omega)).mono ?_
  rintro e w3 ⟨rfl, hb3⟩
  rw [HZZ.out]
  have d0 := (hb3.cell (p := ⟨g, 0, none⟩) hgl2).trans a0
  have d1 := (hb3.cell (p := ⟨g, 1, none⟩) hgl2).trans a1
  have d2 := (hb3.cell (p := ⟨g, 2, none⟩) hgl2).trans a2
  have hT3 := Lib.hid (hT2.out.below hb3)
  have HB3 := Lib.hid (bstep HB2.out hb3)
  have HBW : Hid (∀ x : World, Below W1.heap.size W1 x → Below w.heap.size w x) := Lib.hid (fun x hx => by have h1 := HB1.out; rw [← hgw.out] at h1; exact bstep h1 hx)
  clear hb3
  by_cases hz2 : zz ≤ 200
  · go_wp2_with fail
    refine (rcheck_run P n hn10 d T _ _ _ _ hT3.out HW.out).mono ?_
    rintro e w4 ⟨rfl, hb4⟩
    go_wp2_with fail
    go_ret
    rw [← hgw.out]
    exact ⟨.inl ⟨rfl, by rw [HZZ.out]; exact hz2⟩, HBW.out _ (bstep HB3.out hb4)⟩
  · go_wp2_with fail
    go_ret
    rw [← hgw.out]
    exact ⟨.inr rfl, HBW.out _ HB3.out⟩

/-- A trust as trustquorummake.Trust returns it. -/
def Fine (n : Int) (d : Nat) (T : Tree) : Prop := WF n d T ∧ sizeT d T ≤ 200

theorem Fine.single {n r : Int} {D : Nat} (h0 : 0 ≤ r) (h1 : r < n) : Fine n (D + 1) (.mk 1 [r] []) := by
  refine ⟨?_, by simp [sizeT]⟩
  show 1 ≤ (1 : Int) ∧ (1 : Int) ≤ (([r].length + ([] : List Tree).length : Nat) : Int) ∧ [r].length ≤ 10 ∧ ([] : List Tree).length ≤ 3 ∧ (∀ x ∈ [r], 0 ≤ x ∧ x < n) ∧ [r].Nodup ∧ ∀ T ∈ ([] : List Tree), WF n D T
  refine ⟨by omega, by simp, by simp, by simp, fun x hx => ?_, by simp, fun T hT => by simp at hT⟩
  rw [List.mem_singleton] at hx
  omega

set_option maxHeartbeats 2000000 in
theorem mkTrust_run (sb n : Nat) (hn : 1 ≤ n) (hn1 : n ≤ 10) (D : Nat) (hD : D ≤ 3) (w : World) (hs : TapeOk w sb) :
    Calls Try.prog 16 #[.pointer (some ⟨sb, 0, none⟩), .int .i64 n, .int .i64 ((D + 1 : Nat) : Int)] w fun e w' => ∃ (v0 v1 v2 : Value) (T : Tree), e = .returned (.agg #[v0, v1, v2]) ∧ TAt (fun b => w.heap.size ≤ b) (D + 1) w' v0 v1 v2 T ∧ Fine n (D + 1) T ∧ TapeOk w' sb ∧ w.grownBy w' (some sb) := by
  have HS := Lib.hid hs
  have hsl := hs.lt
  clear hs
  go_enter Try.func16, Try.ntmps16
  have hbox : (w.alloc (.cells #[.int .i64 0, .slice none 0 0, .slice none 0 0] 49)).heap[w.heap.size]? = some (.cells #[.int .i64 0, .slice none 0 0, .slice none 0 0] 49 (0, 0)) := heap_alloc_new _ _
  have HO := Lib.hid (show OutAt (w.alloc (.cells #[.int .i64 0, .slice none 0 0, .slice none 0 0] 49)) w.heap.size 0 (.slice none 0 0) (.slice none 0 0) from hbox)
  have HS1 := Lib.hid (HS.out.alloc (.cells #[.int .i64 0, .slice none 0 0, .slice none 0 0] 49))
  have HG1 := Lib.hid (grown_below (r := some sb) (balloc (bref w) (.cells #[.int .i64 0, .slice none 0 0, .slice none 0 0] 49)))
  clear hbox
  go_upto_region 1 with fail
  generalize w.alloc (.cells #[.int .i64 0, .slice none 0 0, .slice none 0 0] 49) = W1 at *
  have hol := HO.out.lt
  go_wp2_with fail
  refine (trust_run sb n hn hn1 D (by omega) _ HS1.out).mono ?_
  rintro e w2 ⟨x0, x1, x2, T, rfl, hT, hW, hs2, hg2⟩
  obtain ⟨t', A', n', ca, B', m', cb, rfl, rfl, rfl⟩ := hT.form
  have HO2 := Lib.hid ((HO.out.keep (hg2.block _ hol (by simp; omega))).keep (Below.heap_alloc w2 (.cells #[.int .i64 t', .slice A' n' ca, .slice B' m' cb] 49) _ (Nat.lt_of_lt_of_le hol hg2.size)))
  have HT2 := Lib.hid (hT.below (balloc (bref w2) (.cells #[.int .i64 t', .slice A' n' ca, .slice B' m' cb] 49)))
  have HS2 := Lib.hid (hs2.alloc (.cells #[.int .i64 t', .slice A' n' ca, .slice B' m' cb] 49))
  have HG2 := Lib.hid (grown_trans (grown_trans HG1.out hg2) (grown_below (balloc (bref w2) (.cells #[.int .i64 t', .slice A' n' ca, .slice B' m' cb] 49))))
  have HW := Lib.hid hW
  have hbox2 : OutAt (w2.alloc (.cells #[.int .i64 t', .slice A' n' ca, .slice B' m' cb] 49)) w2.heap.size t' (.slice A' n' ca) (.slice B' m' cb) := heap_alloc_new _ _
  have HX := Lib.hid hbox2
  have hg2z := hg2.size
  clear hT hW hs2 hg2 hbox2
  go_upto_region 2 with fail
  generalize w2.alloc (.cells #[.int .i64 t', .slice A' n' ca, .slice B' m' cb] 49) = W2 at *
  generalize w2.heap.size = g at *
  obtain ⟨c0, c1, c2⟩ := HX.out.cs
  have hgl := HX.out.lt
  go_wp2_with fail
  refine (rvalid_run _ n (by omega) (D + 1) (by omega) T _ _ _ _ HT2.out HW.out).mono ?_
  rintro e w3 ⟨he, hb3⟩
  have hO3 := HO2.out.keep (hb3.block _ HO2.out.lt)
  obtain ⟨o0, o1, o2⟩ := hO3.cs
  have of0 := hO3.fr 0
  have of1 := hO3.fr 1
  have of2 := hO3.fr 2
  have HO3 := Lib.hid hO3
  have HT3 := Lib.hid (HT2.out.below hb3)
  have HS3 := Lib.hid (HS2.out.below hb3)
  have HG3 := Lib.hid (grown_trans HG2.out (grown_below hb3))
  have hX3 := HX.out.keep (hb3.block _ hgl)
  obtain ⟨d0, d1, d2⟩ := hX3.cs
  clear hX3 hO3 hb3
  have hz1 : w.heap.size < W1.heap.size := hol
  have hgz3 := HG3.out.size
  rcases he with ⟨rfl, hz⟩ | rfl
  · go_wp2_with fail
    refine bodyPost_ret (v := .agg #[.int .i64 t', .slice A' n' ca, .slice B' m' cb]) ?_ rfl ⟨_, _, _, T, rfl, ?_, ⟨HW.out, hz⟩, ?_, ?_⟩
    · simp [results, Try.results16, go_sem, o0, o1, o2]
    · exact TAt.both (fun k hk hP => (Below.heap_setCell _ _ _ _ (by simp; omega)).trans ((Below.heap_setCell _ _ _ _ (by simp; omega)).trans (Below.heap_setCell _ _ _ _ (by simp; omega)))) (fun k _ hP => by omega) _ _ _ _ _ HT3.out
    · exact ((HS3.out.setCell (p := ⟨w.heap.size, 0, none⟩) (by simp; omega) _).setCell (p := ⟨w.heap.size, 1, none⟩) (by simp; omega) _).setCell (p := ⟨w.heap.size, 2, none⟩) (by simp; omega) _
    · exact gset (gset (gset HG3.out (p := ⟨w.heap.size, 0, none⟩) (by simp) _) (p := ⟨w.heap.size, 1, none⟩) (by simp) _) (p := ⟨w.heap.size, 2, none⟩) (by simp) _
  · go_wp2_with fail
    refine (TN_run _ sb _ (by omega) (by omega) HS3.out).mono ?_
    rintro e w4 ⟨r, hr0, hr1, rfl, hs4, hg4⟩
    have hO4 := HO3.out.keep (hg4.block _ HO3.out.lt (by simp; omega))
    obtain ⟨p0, p1, p2⟩ := hO4.cs
    have pf0 := hO4.fr 0
    have pf1 := hO4.fr 1
    have pf2 := hO4.fr 2
    have HOX := Lib.hid hO4
    have HS5 := Lib.hid hs4
    have HG5 := Lib.hid (grown_trans HG3.out hg4)
    have hw4 : w.heap.size < w4.heap.size := hO4.lt
    have hw5 : sb < w4.heap.size := hs4.lt
    clear hO4 hs4 hg4 o0 o1 o2 of0 of1 of2 d0 d1 d2 c0 c1 c2
    go_wp2_with fail
    have HS6 := ((((HS5.out.setCell (p := ⟨w.heap.size, 0, none⟩) (by simp; omega) (.int .i64 1)).setCell (p := ⟨w.heap.size, 1, none⟩) (by simp; omega) (.slice (some ⟨w4.heap.size, 0, none⟩) 1 1)).setCell (p := ⟨w.heap.size, 2, none⟩) (by simp; omega) (.slice none 0 0))).alloc (.cells #[.int .i64 r] 3)
    have HG6 := grown_trans (gset (gset (gset HG5.out (p := ⟨w.heap.size, 0, none⟩) (by simp) (.int .i64 1)) (p := ⟨w.heap.size, 1, none⟩) (by simp) (.slice (some ⟨w4.heap.size, 0, none⟩) 1 1)) (p := ⟨w.heap.size, 2, none⟩) (by simp) (.slice none 0 0)) (grown_below (r := some sb) (balloc (bref _) (.cells #[.int .i64 r] 3)))
    refine bodyPost_ret (v := .agg #[.int .i64 1, .slice (some ⟨w4.heap.size, 0, none⟩) 1 1, .slice none 0 0]) ?_ rfl ⟨_, _, _, .mk 1 [r] [], rfl, ?_, Fine.single hr0 hr1, HS6, HG6⟩
    · simp [results, Try.results16, go_sem, p0, p1, p2, hw4]
    · refine ⟨rfl, by simp, by simp, ⟨some ⟨w4.heap.size, 0, none⟩, 1, rfl, fun k hk => ⟨w4.heap.size, 0, rfl, by omega, ?_⟩⟩, ⟨none, 0, rfl, fun k T hT => by simp at hT⟩⟩
      obtain rfl : k = 0 := by simpa using hk
      refine (cell_of_row _ _ 0 #[.int .i64 r] 3 (0, 0) ?_)
      have := heap_alloc_new (((w4.setCell ⟨w.heap.size, 0, none⟩ (.int .i64 1)).setCell ⟨w.heap.size, 1, none⟩ (.slice (some ⟨w4.heap.size, 0, none⟩) 1 1)).setCell ⟨w.heap.size, 2, none⟩ (.slice none 0 0)) (.cells #[.int .i64 r] 3)
      simpa using this

end Go.Proofs.Ytfghnkgllmofgaa
