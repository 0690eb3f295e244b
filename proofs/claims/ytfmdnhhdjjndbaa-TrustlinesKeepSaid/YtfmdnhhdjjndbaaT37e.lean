/- Package trustlines: Held, Room, Issued. -/
import Derived.Test.YtfmdnhhdjjndbaaT37d
namespace Go.Proofs.Ytfmdnhhdjjndbaa
set_option linter.unusedVariables false
set_option linter.unusedSimpArgs false
open Go.RowKit

set_option maxRecDepth 100000 in
set_option maxHeartbeats 4000000 in
theorem theld_run (P : Nat → Prop) (g : Led) (i : Int) (s : Nat) (va vl vo : Value) (w : World) (hs : s ≤ 2) (hok : LedW g) (h : LedAt P w va vl vo g) :
    Calls Try.prog 22 #[valG g va vl vo, .int .i64 i, valS s] w fun e w' => e = .returned (.int .i64 (heldG g i s)) ∧ Below w.heap.size w w' := by
  unfold valG
  obtain ⟨A, c, B, c2, C, c3, rfl, rfl, rfl, hc, hm, hc2, hm2, hc3, hm3⟩ := h.form
  have hba := balloc (bref w) (.cells #[.int .i64 g.number, .slice A g.accs.length c, .slice B g.lines.length c2, .slice C g.offers.length c3, .int .i64 g.next, .int .i64 g.fees, .int .u64 g.link] 30)
  have hbb := balloc hba (.cells #[.string (codeOf s), .int .i64 (issOf s)] 49)
  have HX0 := Lib.hid ((box7 w 30 (.int .i64 g.number) (.slice A g.accs.length c) (.slice B g.lines.length c2) (.slice C g.offers.length c3) (.int .i64 g.next) (.int .i64 g.fees) (.int .u64 g.link)).alloc (.cells #[.string (codeOf s), .int .i64 (issOf s)] 49))
  have hbx := box2 (w.alloc (.cells #[.int .i64 g.number, .slice A g.accs.length c, .slice B g.lines.length c2, .slice C g.offers.length c3, .int .i64 g.next, .int .i64 g.fees, .int .u64 g.link] 30)) 49 (.string (codeOf s)) (.int .i64 (issOf s))
  rw [alloc_szS] at hbx
  have HS0 := Lib.hid hbx
  have HL0 := Lib.hid (h.below hbb)
  have HB0 := Lib.hid hbb
  clear h hba hbb hbx
  have HST := Lib.hid (fun W (hW : LedAt P W (.slice A g.accs.length c) (.slice B g.lines.length c2) (.slice C g.offers.length c3) g) => state_run P g i s _ _ _ W hs hok hW)
  unfold valG valS at HST
  unfold valS
  go_enter Try.func22, Try.ntmps22
  go_upto_region 1 with fail
  generalize (w.alloc (.cells #[.int .i64 g.number, .slice A g.accs.length c, .slice B g.lines.length c2, .slice C g.offers.length c3, .int .i64 g.next, .int .i64 g.fees, .int .u64 g.link] 30)).alloc (.cells #[.string (codeOf s), .int .i64 (issOf s)] 49) = W0 at *
  obtain ⟨x_0, x_1, x_2, x_3, x_4, x_5, x_6, _⟩ := HX0.out
  obtain ⟨s_0, s_1, _⟩ := HS0.out
  go_wp2_with fail
  refine (HST.out _ HL0.out).mono ?_
  rintro e w1 ⟨rfl, hb1⟩
  have HB1 := Lib.hid (bstep HB0.out hb1)
  clear x_0 x_1 x_2 x_3 x_4 x_5 x_6 s_0 s_1
  clear hb1
  go_wp2_with fail
  go_ret
  exact ⟨rfl, HB1.out⟩

set_option maxRecDepth 100000 in
set_option maxHeartbeats 4000000 in
theorem troom_run (P : Nat → Prop) (g : Led) (i : Int) (s : Nat) (va vl vo : Value) (w : World) (hs : s ≤ 2) (hok : LedW g) (h : LedAt P w va vl vo g) :
    Calls Try.prog 23 #[valG g va vl vo, .int .i64 i, valS s] w fun e w' => e = .returned (.int .i64 (roomG g i s)) ∧ Below w.heap.size w w' := by
  unfold valG
  obtain ⟨A, c, B, c2, C, c3, rfl, rfl, rfl, hc, hm, hc2, hm2, hc3, hm3⟩ := h.form
  have hba := balloc (bref w) (.cells #[.int .i64 g.number, .slice A g.accs.length c, .slice B g.lines.length c2, .slice C g.offers.length c3, .int .i64 g.next, .int .i64 g.fees, .int .u64 g.link] 30)
  have hbb := balloc hba (.cells #[.string (codeOf s), .int .i64 (issOf s)] 49)
  have HX0 := Lib.hid ((box7 w 30 (.int .i64 g.number) (.slice A g.accs.length c) (.slice B g.lines.length c2) (.slice C g.offers.length c3) (.int .i64 g.next) (.int .i64 g.fees) (.int .u64 g.link)).alloc (.cells #[.string (codeOf s), .int .i64 (issOf s)] 49))
  have hbx := box2 (w.alloc (.cells #[.int .i64 g.number, .slice A g.accs.length c, .slice B g.lines.length c2, .slice C g.offers.length c3, .int .i64 g.next, .int .i64 g.fees, .int .u64 g.link] 30)) 49 (.string (codeOf s)) (.int .i64 (issOf s))
  rw [alloc_szS] at hbx
  have HS0 := Lib.hid hbx
  have HL0 := Lib.hid (h.below hbb)
  have HB0 := Lib.hid hbb
  clear h hba hbb hbx
  have HST := Lib.hid (fun W (hW : LedAt P W (.slice A g.accs.length c) (.slice B g.lines.length c2) (.slice C g.offers.length c3) g) => state_run P g i s _ _ _ W hs hok hW)
  unfold valG valS at HST
  unfold valS
  go_enter Try.func23, Try.ntmps23
  go_upto_region 1 with fail
  generalize (w.alloc (.cells #[.int .i64 g.number, .slice A g.accs.length c, .slice B g.lines.length c2, .slice C g.offers.length c3, .int .i64 g.next, .int .i64 g.fees, .int .u64 g.link] 30)).alloc (.cells #[.string (codeOf s), .int .i64 (issOf s)] 49) = W0 at *
  obtain ⟨x_0, x_1, x_2, x_3, x_4, x_5, x_6, _⟩ := HX0.out
  obtain ⟨s_0, s_1, _⟩ := HS0.out
  go_wp2_with fail
  refine (HST.out _ HL0.out).mono ?_
  rintro e w1 ⟨rfl, hb1⟩
  have HB1 := Lib.hid (bstep HB0.out hb1)
  clear x_0 x_1 x_2 x_3 x_4 x_5 x_6 s_0 s_1
  clear hb1
  go_wp2_with fail
  go_ret
  exact ⟨rfl, HB1.out⟩

end Go.Proofs.Ytfmdnhhdjjndbaa
