/- The contracts of slices.Slices and slices.Blocking at a right trust. -/
import Derived.Test.YthbiopmfbnpmfaaSlLeast
import Derived.Test.YthbiopmfbnpmfaaB2
import Derived.Lib.SmallJoins
namespace Go.Proofs.Ythbiopmfbnpmfaa
set_option linter.unusedVariables false
set_option linter.unusedSimpArgs false
open Go.RowKit

def sliP (d : Nat) (T : Tree) (s : Nat) : Bool := subB s (usesT d T) && satB d T (s : Int)

def bloP (d : Nat) (T : Tree) (s : Nat) : Bool := subB s (usesT d T) && blkB d T (s : Int)

set_option maxHeartbeats 1000000 in
theorem slices1_run (d : Nat) (T : Tree) (t : Int) (A1 A2 : Option Addr) (n1 c1 n2 c2 ub ab u s : Nat) (w : World) (hs : s < 1024) (hu : u < 1024) (hc : w.cell? ⟨ub, 0, none⟩ = some (.int .i64 (u : Int)))
    (a0 : w.cell? ⟨ab, 0, none⟩ = some (.int .i64 t)) (a1 : w.cell? ⟨ab, 1, none⟩ = some (.slice A1 n1 c1)) (a2 : w.cell? ⟨ab, 2, none⟩ = some (.slice A2 n2 c2)) (hT : TAt (fun _ => True) d w (.int .i64 t) (.slice A1 n1 c1) (.slice A2 n2 c2) T) :
    Calls Try.prog 21 #[.int .i64 (s : Int), .pointer (some ⟨ub, 0, none⟩), .pointer (some ⟨ab, 0, none⟩)] w fun e w' => e = .returned (.bool (subB s u && satB d T (s : Int))) ∧ Below w.heap.size w w' := by
  have HT := Lib.hid hT
  clear hT
  rcases (show subB s u = false ∨ subB s u = true by cases subB s u <;> simp) with hq | hq
  · have han : (bits .andNot .i64 (s : Int) (u : Int) == 0) = false := by rw [andnot_sub s u hs hu, hq]
    rw [hq]
    clear hq
    go_enter Try.func21, Try.ntmps21
    go_wp2_with fail
    go_ret
    exact ⟨rfl, bref _⟩
  · have han : (bits .andNot .i64 (s : Int) (u : Int) == 0) = true := by rw [andnot_sub s u hs hu, hq]
    rw [hq]
    clear hq
    obtain ⟨r, hr⟩ : ∃ r, satB d T (s : Int) = r := ⟨_, rfl⟩
    have HRR := Lib.hid hr
    rw [hr]
    clear hr
    go_enter Try.func21, Try.ntmps21
    go_wp2_with fail
    refine (satisfied_run (fun _ => True) d T _ _ _ (s : Int) _ HT.out).mono ?_
    rintro e W1 ⟨rfl, hb1⟩
    rw [HRR.out]
    have HB := Lib.hid hb1
    clear hb1
    go_wp2_with fail
    go_ret
    exact ⟨rfl, HB.out⟩

theorem enters_slices1 : ∀ args w, (callFunc 21 args).run Try.prog w = .ok (.enter 21 args) w := enters_of Try.func21 (by kernel_rfl) rfl

set_option maxRecDepth 100000 in
set_option maxHeartbeats 2000000 in
theorem slices_run (n : Int) (hn10 : n ≤ 10) (d : Nat) (hd : d ≤ 4) (P : Nat → Prop) (T : Tree) (v0 v1 v2 : Value) (w : World) (h : TAt P d w v0 v1 v2 T) (hW : WF n d T) (hsz : sizeT d T ≤ 200) :
    Calls Try.prog 8 #[.agg #[v0, v1, v2]] w fun e w' => (∃ v, e = .returned (.tuple #[v, .int .i64 0]) ∧ w'.ownsRow w.heap.size 3 1 v (lfold (sliP d T) (ordN 10)).length ((zs (lfold (sliP d T) (ordN 10))).map (Value.int .i64))) ∧ Below w.heap.size w w' := by
  obtain ⟨t', A', n', ca, B', m', cb, rfl, rfl, rfl⟩ := h.form
  have hb1 : Below w.heap.size w (w.alloc (.cells #[.int .i64 t', .slice A' n' ca, .slice B' m' cb] 27)) := balloc (bref w) _
  have HT := Lib.hid ((h.imp (fun _ _ _ => trivial) : TAt (fun _ => True) d w _ _ _ T).below hb1)
  have HK := Lib.hid (show (w.alloc (.cells #[.int .i64 t', .slice A' n' ca, .slice B' m' cb] 27)).heap[w.heap.size]? = some (.cells #[.int .i64 t', .slice A' n' ca, .slice B' m' cb] 27 (0, 0)) from alloc_at rfl)
  have HB1 := Lib.hid hb1
  have HW := Lib.hid hW
  have HSZ := Lib.hid hsz
  have hul := usesT_lt d T
  have HUU := Lib.hid (fun W (h : TAt (fun _ => True) d W (.int .i64 t') (.slice A' n' ca) (.slice B' m' cb) T) => puses_run (fun _ => True) d T _ _ _ W h)
  have HP := Lib.hid (show sliP d T = (fun s : Nat => subB s (usesT d T) && satB d T (s : Int)) from rfl)
  generalize sliP d T = pp at HP ⊢
  generalize usesT d T = u at hul HUU HP
  clear h hb1 hW hsz
  go_enter Try.func8, Try.ntmps8
  go_upto_region 1 with fail
  generalize (w.alloc (.cells #[.int .i64 t', .slice A' n' ca, .slice B' m' cb] 27)) = W1 at *
  generalize hg : w.heap.size = g at *
  have HG := Lib.hid hg
  clear hg
  have x0 : W1.cell? ⟨g, 0, none⟩ = some (.int .i64 t') := cell_of_row _ _ 0 _ _ (0, 0) HK.out
  have x1 : W1.cell? ⟨g, 1, none⟩ = some (.slice A' n' ca) := cell_of_row _ _ 1 _ _ (0, 0) HK.out
  have x2 : W1.cell? ⟨g, 2, none⟩ = some (.slice B' m' cb) := cell_of_row _ _ 2 _ _ (0, 0) HK.out
  go_wp2_with fail
  refine (pvalid_run n hn10 d hd _ T _ _ _ _ HT.out HW.out HSZ.out).mono ?_
  rintro e W2 ⟨rfl, hb2⟩
  have HT2 := Lib.hid (HT.out.below hb2)
  have HK2 := Lib.hid ((hb2.block _ (Array.getElem?_eq_some_iff.1 HK.out).1).trans HK.out)
  have HB2 := Lib.hid (show Below w.heap.size w W2 from by have h := HB1.out; rw [← HG.out] at h; exact bstep h hb2)
  clear hb2 x0 x1 x2
  have x0 : W2.cell? ⟨g, 0, none⟩ = some (.int .i64 t') := cell_of_row _ _ 0 _ _ (0, 0) HK2.out
  have x1 : W2.cell? ⟨g, 1, none⟩ = some (.slice A' n' ca) := cell_of_row _ _ 1 _ _ (0, 0) HK2.out
  have x2 : W2.cell? ⟨g, 2, none⟩ = some (.slice B' m' cb) := cell_of_row _ _ 2 _ _ (0, 0) HK2.out
  go_wp2_with fail
  refine (HUU.out _ HT2.out).mono ?_
  rintro e W3 ⟨rfl, hb3⟩
  have HT3 := Lib.hid ((HT2.out.below hb3).below (balloc (bref W3) (.cells #[.int .i64 (u : Int)] 3)))
  have HK3 := Lib.hid ((heap_alloc_old W3 (.cells #[.int .i64 (u : Int)] 3) (Array.getElem?_eq_some_iff.1 ((hb3.block _ (Array.getElem?_eq_some_iff.1 HK2.out).1).trans HK2.out)).1).trans ((hb3.block _ (Array.getElem?_eq_some_iff.1 HK2.out).1).trans HK2.out))
  have HU3 := Lib.hid (show (W3.alloc (.cells #[.int .i64 (u : Int)] 3)).heap[W3.heap.size]? = some (.cells #[.int .i64 (u : Int)] 3 (0, 0)) from alloc_at rfl)
  have HB3 := Lib.hid (show Below w.heap.size w (W3.alloc (.cells #[.int .i64 (u : Int)] 3)) from balloc (HB2.out.trans (hb3.mono HB2.out.size)) _)
  clear hb3 x0 x1 x2
  go_upto_region 5 with fail
  generalize (W3.alloc (.cells #[.int .i64 (u : Int)] 3)) = W4 at *
  generalize W3.heap.size = q at *
  have hw4 := HB3.out.size
  go_wp2_with fail
  refine (sleast_run 21 q g pp W4 enters_slices1 (fun s hs W hb => by
    have HKW := (hb.block _ (Array.getElem?_eq_some_iff.1 HK3.out).1).trans HK3.out
    have HUW := (hb.block _ (Array.getElem?_eq_some_iff.1 HU3.out).1).trans HU3.out
    rw [HP.out]
    exact slices1_run d T t' A' B' n' ca m' cb q g u s W hs hul (cell_of_row _ _ 0 _ _ (0, 0) HUW) (cell_of_row _ _ 0 _ _ (0, 0) HKW) (cell_of_row _ _ 1 _ _ (0, 0) HKW) (cell_of_row _ _ 2 _ _ (0, 0) HKW) (HT3.out.below hb))).mono ?_
  rintro e W5 ⟨⟨v, rfl, hrow⟩, hb5⟩
  have HF := Lib.hid (show W5.ownsRow w.heap.size 3 1 v (lfold pp (ordN 10)).length ((zs (lfold pp (ordN 10))).map (Value.int .i64)) ∧ Below w.heap.size w W5 from ⟨Go.Joins.ownsRow_le hrow hw4, HB3.out.trans (hb5.mono hw4)⟩)
  clear hrow hb5
  go_wp2_with fail
  go_ret2
  exact ⟨⟨v, rfl, HF.out.1⟩, HF.out.2⟩

set_option maxHeartbeats 1000000 in
theorem blocking1_run (d : Nat) (T : Tree) (t : Int) (A1 A2 : Option Addr) (n1 c1 n2 c2 ub ab u s : Nat) (w : World) (hs : s < 1024) (hu : u < 1024) (hc : w.cell? ⟨ub, 0, none⟩ = some (.int .i64 (u : Int)))
    (a0 : w.cell? ⟨ab, 0, none⟩ = some (.int .i64 t)) (a1 : w.cell? ⟨ab, 1, none⟩ = some (.slice A1 n1 c1)) (a2 : w.cell? ⟨ab, 2, none⟩ = some (.slice A2 n2 c2)) (hT : TAt (fun _ => True) d w (.int .i64 t) (.slice A1 n1 c1) (.slice A2 n2 c2) T) :
    Calls Try.prog 25 #[.int .i64 (s : Int), .pointer (some ⟨ub, 0, none⟩), .pointer (some ⟨ab, 0, none⟩)] w fun e w' => e = .returned (.bool (subB s u && blkB d T (s : Int))) ∧ Below w.heap.size w w' := by
  have HT := Lib.hid hT
  clear hT
  rcases (show subB s u = false ∨ subB s u = true by cases subB s u <;> simp) with hq | hq
  · have han : (bits .andNot .i64 (s : Int) (u : Int) == 0) = false := by rw [andnot_sub s u hs hu, hq]
    rw [hq]
    clear hq
    go_enter Try.func25, Try.ntmps25
    go_wp2_with fail
    go_ret
    exact ⟨rfl, bref _⟩
  · have han : (bits .andNot .i64 (s : Int) (u : Int) == 0) = true := by rw [andnot_sub s u hs hu, hq]
    rw [hq]
    clear hq
    obtain ⟨r, hr⟩ : ∃ r, blkB d T (s : Int) = r := ⟨_, rfl⟩
    have HRR := Lib.hid hr
    rw [hr]
    clear hr
    go_enter Try.func25, Try.ntmps25
    go_wp2_with fail
    refine (blocked_run (fun _ => True) d T _ _ _ (s : Int) _ HT.out).mono ?_
    rintro e W1 ⟨rfl, hb1⟩
    rw [HRR.out]
    have HB := Lib.hid hb1
    clear hb1
    go_wp2_with fail
    go_ret
    exact ⟨rfl, HB.out⟩

theorem enters_blocking1 : ∀ args w, (callFunc 25 args).run Try.prog w = .ok (.enter 25 args) w := enters_of Try.func25 (by kernel_rfl) rfl

set_option maxRecDepth 100000 in
set_option maxHeartbeats 2000000 in
theorem blocking_run (n : Int) (hn10 : n ≤ 10) (d : Nat) (hd : d ≤ 4) (P : Nat → Prop) (T : Tree) (v0 v1 v2 : Value) (w : World) (h : TAt P d w v0 v1 v2 T) (hW : WF n d T) (hsz : sizeT d T ≤ 200) :
    Calls Try.prog 13 #[.agg #[v0, v1, v2]] w fun e w' => (∃ v, e = .returned (.tuple #[v, .int .i64 0]) ∧ w'.ownsRow w.heap.size 3 1 v (lfold (bloP d T) (ordN 10)).length ((zs (lfold (bloP d T) (ordN 10))).map (Value.int .i64))) ∧ Below w.heap.size w w' := by
  obtain ⟨t', A', n', ca, B', m', cb, rfl, rfl, rfl⟩ := h.form
  have hb1 : Below w.heap.size w (w.alloc (.cells #[.int .i64 t', .slice A' n' ca, .slice B' m' cb] 27)) := balloc (bref w) _
  have HT := Lib.hid ((h.imp (fun _ _ _ => trivial) : TAt (fun _ => True) d w _ _ _ T).below hb1)
  have HK := Lib.hid (show (w.alloc (.cells #[.int .i64 t', .slice A' n' ca, .slice B' m' cb] 27)).heap[w.heap.size]? = some (.cells #[.int .i64 t', .slice A' n' ca, .slice B' m' cb] 27 (0, 0)) from alloc_at rfl)
  have HB1 := Lib.hid hb1
  have HW := Lib.hid hW
  have HSZ := Lib.hid hsz
  have hul := usesT_lt d T
  have HUU := Lib.hid (fun W (h : TAt (fun _ => True) d W (.int .i64 t') (.slice A' n' ca) (.slice B' m' cb) T) => puses_run (fun _ => True) d T _ _ _ W h)
  have HP := Lib.hid (show bloP d T = (fun s : Nat => subB s (usesT d T) && blkB d T (s : Int)) from rfl)
  generalize bloP d T = pp at HP ⊢
  generalize usesT d T = u at hul HUU HP
  clear h hb1 hW hsz
  go_enter Try.func13, Try.ntmps13
  go_upto_region 1 with fail
  generalize (w.alloc (.cells #[.int .i64 t', .slice A' n' ca, .slice B' m' cb] 27)) = W1 at *
  generalize hg : w.heap.size = g at *
  have HG := Lib.hid hg
  clear hg
  have x0 : W1.cell? ⟨g, 0, none⟩ = some (.int .i64 t') := cell_of_row _ _ 0 _ _ (0, 0) HK.out
  have x1 : W1.cell? ⟨g, 1, none⟩ = some (.slice A' n' ca) := cell_of_row _ _ 1 _ _ (0, 0) HK.out
  have x2 : W1.cell? ⟨g, 2, none⟩ = some (.slice B' m' cb) := cell_of_row _ _ 2 _ _ (0, 0) HK.out
  go_wp2_with fail
  refine (pvalid_run n hn10 d hd _ T _ _ _ _ HT.out HW.out HSZ.out).mono ?_
  rintro e W2 ⟨rfl, hb2⟩
  have HT2 := Lib.hid (HT.out.below hb2)
  have HK2 := Lib.hid ((hb2.block _ (Array.getElem?_eq_some_iff.1 HK.out).1).trans HK.out)
  have HB2 := Lib.hid (show Below w.heap.size w W2 from by have h := HB1.out; rw [← HG.out] at h; exact bstep h hb2)
  clear hb2 x0 x1 x2
  have x0 : W2.cell? ⟨g, 0, none⟩ = some (.int .i64 t') := cell_of_row _ _ 0 _ _ (0, 0) HK2.out
  have x1 : W2.cell? ⟨g, 1, none⟩ = some (.slice A' n' ca) := cell_of_row _ _ 1 _ _ (0, 0) HK2.out
  have x2 : W2.cell? ⟨g, 2, none⟩ = some (.slice B' m' cb) := cell_of_row _ _ 2 _ _ (0, 0) HK2.out
  go_wp2_with fail
  refine (HUU.out _ HT2.out).mono ?_
  rintro e W3 ⟨rfl, hb3⟩
  have HT3 := Lib.hid ((HT2.out.below hb3).below (balloc (bref W3) (.cells #[.int .i64 (u : Int)] 3)))
  have HK3 := Lib.hid ((heap_alloc_old W3 (.cells #[.int .i64 (u : Int)] 3) (Array.getElem?_eq_some_iff.1 ((hb3.block _ (Array.getElem?_eq_some_iff.1 HK2.out).1).trans HK2.out)).1).trans ((hb3.block _ (Array.getElem?_eq_some_iff.1 HK2.out).1).trans HK2.out))
  have HU3 := Lib.hid (show (W3.alloc (.cells #[.int .i64 (u : Int)] 3)).heap[W3.heap.size]? = some (.cells #[.int .i64 (u : Int)] 3 (0, 0)) from alloc_at rfl)
  have HB3 := Lib.hid (show Below w.heap.size w (W3.alloc (.cells #[.int .i64 (u : Int)] 3)) from balloc (HB2.out.trans (hb3.mono HB2.out.size)) _)
  clear hb3 x0 x1 x2
  go_upto_region 5 with fail
  generalize (W3.alloc (.cells #[.int .i64 (u : Int)] 3)) = W4 at *
  generalize W3.heap.size = q at *
  have hw4 := HB3.out.size
  go_wp2_with fail
  refine (sleast_run 25 q g pp W4 enters_blocking1 (fun s hs W hb => by
    have HKW := (hb.block _ (Array.getElem?_eq_some_iff.1 HK3.out).1).trans HK3.out
    have HUW := (hb.block _ (Array.getElem?_eq_some_iff.1 HU3.out).1).trans HU3.out
    rw [HP.out]
    exact blocking1_run d T t' A' B' n' ca m' cb q g u s W hs hul (cell_of_row _ _ 0 _ _ (0, 0) HUW) (cell_of_row _ _ 0 _ _ (0, 0) HKW) (cell_of_row _ _ 1 _ _ (0, 0) HKW) (cell_of_row _ _ 2 _ _ (0, 0) HKW) (HT3.out.below hb))).mono ?_
  rintro e W5 ⟨⟨v, rfl, hrow⟩, hb5⟩
  have HF := Lib.hid (show W5.ownsRow w.heap.size 3 1 v (lfold pp (ordN 10)).length ((zs (lfold pp (ordN 10))).map (Value.int .i64)) ∧ Below w.heap.size w W5 from ⟨Go.Joins.ownsRow_le hrow hw4, HB3.out.trans (hb5.mono hw4)⟩)
  clear hrow hb5
  go_wp2_with fail
  go_ret2
  exact ⟨⟨v, rfl, HF.out.1⟩, HF.out.2⟩

end Go.Proofs.Ythbiopmfbnpmfaa
