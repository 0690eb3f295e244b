/- Package trustlines: Credit, Debit. -/
import Derived.Test.YtfmdnhhdjjndbaaT37i
import Derived.Test.YtfmdnhhdjjndbaaT37j
import Derived.Test.YtfmdnhhdjjndbaaT37k
namespace Go.Proofs.Ytfmdnhhdjjndbaa
set_option linter.unusedVariables false
set_option linter.unusedSimpArgs false
open Go.RowKit

/-- What a change of what an account holds comes to. -/
def chgE (ea : Acc → Int) (el : Lin → Int) (g : Led) (i : Int) (s : Nat) : Int := if s = 0 then ea (getA i g.accs) else if issOf s = i then 0 else if hasL i s g.lines = true then el (getL i s g.lines) else 70

def chgG (ea : Acc → Int) (ua : Acc → Acc) (el : Lin → Int) (ul : Lin → Lin) (g : Led) (i : Int) (s : Nat) : Led := if chgE ea el g i s ≠ 0 then zeroG else if s = 0 then { g with accs := g.accs.set (findA i g.accs) (ua (getA i g.accs)) } else if issOf s = i then g else { g with lines := g.lines.set (findL i s g.lines) (ul (getL i s g.lines)) }

theorem getA_has {L : List Acc} {i : Int} (h : hasA i L = true) : L[findA i L]? = some (getA i L) := by
  have h1 := of_decide_eq_true h
  unfold getA
  rw [List.getElem?_eq_getElem h1]
  rfl

theorem getL_has {L : List Lin} {i : Int} {s : Nat} (h : hasL i s L = true) : L[findL i s L]? = some (getL i s L) := by
  have h1 := of_decide_eq_true h
  unfold getL
  rw [List.getElem?_eq_getElem h1]
  rfl

theorem box4b (w : World) (a b c d : Obj) : HasB w.heap.size a ((((w.alloc a).alloc b).alloc c).alloc d) ∧ HasB (w.heap.size + 1) b ((((w.alloc a).alloc b).alloc c).alloc d) ∧ HasB (w.heap.size + 2) c ((((w.alloc a).alloc b).alloc c).alloc d) ∧ HasB (w.heap.size + 3) d ((((w.alloc a).alloc b).alloc c).alloc d) := by
  have h1 := box3a w a b c
  have h2 : HasB (((w.alloc a).alloc b).alloc c).heap.size d ((((w.alloc a).alloc b).alloc c).alloc d) := heap_alloc_new _ _
  rw [alloc_szS, alloc_szS, alloc_szS] at h2
  exact ⟨h1.1.alloc _, h1.2.1.alloc _, h1.2.2.alloc _, h2⟩

set_option maxRecDepth 100000 in
set_option maxHeartbeats 8000000 in
theorem credit_run (P : Nat → Prop) (g : Led) (i n : Int) (s : Nat) (va vl vo : Value) (w : World) (hs : s ≤ 2) (hn0 : 0 ≤ n) (hn1 : n ≤ 1000000000000) (hok : LedW g) (hhas : hasA i g.accs = true) (h : LedAt P w va vl vo g) :
    Calls Try.prog 30 #[valG g va vl vo, .int .i64 i, valS s, .int .i64 n] w fun e w' => ∃ va' vl' vo', e = .returned (.tuple #[valG (chgG (giveE n) (giveU n) (crE n) (crU n) g i s) va' vl' vo', .int .i64 (chgE (giveE n) (crE n) g i s)]) ∧ LedAt (fun b => w.heap.size ≤ b) w' va' vl' vo' (chgG (giveE n) (giveU n) (crE n) (crU n) g i s) ∧ Below w.heap.size w w' := by
  obtain ⟨A, c, B, c2, C, c3, rfl, rfl, rfl, hc, hm, hc2, hm2, hc3, hm3⟩ := h.form
  have hb0 := balloc (balloc (balloc (balloc (bref w) (.cells #[.int .i64 g.number, .slice A g.accs.length c, .slice B g.lines.length c2, .slice C g.offers.length c3, .int .i64 g.next, .int .i64 g.fees, .int .u64 g.link] 30)) (.cells #[.string (codeOf s), .int .i64 (issOf s)] 49)) (.cells #[.int .i64 n] 3)) (.cells #[.int .i64 0, .slice none 0 0, .slice none 0 0, .slice none 0 0, .int .i64 0, .int .i64 0, .int .u64 0] 30)
  obtain ⟨bx1, bx2, bx3, bx4⟩ := box4b w (.cells #[.int .i64 g.number, .slice A g.accs.length c, .slice B g.lines.length c2, .slice C g.offers.length c3, .int .i64 g.next, .int .i64 g.fees, .int .u64 g.link] 30) (.cells #[.string (codeOf s), .int .i64 (issOf s)] 49) (.cells #[.int .i64 n] 3) (.cells #[.int .i64 0, .slice none 0 0, .slice none 0 0, .slice none 0 0, .int .i64 0, .int .i64 0, .int .u64 0] 30)
  have HCH : Hid (Calls Try.prog 52 #[valG g (.slice A g.accs.length c) (.slice B g.lines.length c2) (.slice C g.offers.length c3), .int .i64 i, valS s, .int .i64 n, .func (.func 19) #[] #[], .func (.func 54) #[] #[.pointer (some ⟨w.heap.size + 2, 0, none⟩)]] ((((w.alloc (.cells #[.int .i64 g.number, .slice A g.accs.length c, .slice B g.lines.length c2, .slice C g.offers.length c3, .int .i64 g.next, .int .i64 g.fees, .int .u64 g.link] 30)).alloc (.cells #[.string (codeOf s), .int .i64 (issOf s)] 49)).alloc (.cells #[.int .i64 n] 3)).alloc (.cells #[.int .i64 0, .slice none 0 0, .slice none 0 0, .slice none 0 0, .int .i64 0, .int .i64 0, .int .u64 0] 30)) fun e w' => ∃ va' vl' vo', e = .returned (.tuple #[valG (chgG (giveE n) (giveU n) (crE n) (crU n) g i s) va' vl' vo', .int .i64 (chgE (giveE n) (crE n) g i s)]) ∧ LedAt (fun b => ((((w.alloc (.cells #[.int .i64 g.number, .slice A g.accs.length c, .slice B g.lines.length c2, .slice C g.offers.length c3, .int .i64 g.next, .int .i64 g.fees, .int .u64 g.link] 30)).alloc (.cells #[.string (codeOf s), .int .i64 (issOf s)] 49)).alloc (.cells #[.int .i64 n] 3)).alloc (.cells #[.int .i64 0, .slice none 0 0, .slice none 0 0, .slice none 0 0, .int .i64 0, .int .i64 0, .int .u64 0] 30)).heap.size ≤ b) w' va' vl' vo' (chgG (giveE n) (giveU n) (crE n) (crU n) g i s) ∧ Below ((((w.alloc (.cells #[.int .i64 g.number, .slice A g.accs.length c, .slice B g.lines.length c2, .slice C g.offers.length c3, .int .i64 g.next, .int .i64 g.fees, .int .u64 g.link] 30)).alloc (.cells #[.string (codeOf s), .int .i64 (issOf s)] 49)).alloc (.cells #[.int .i64 n] 3)).alloc (.cells #[.int .i64 0, .slice none 0 0, .slice none 0 0, .slice none 0 0, .int .i64 0, .int .i64 0, .int .u64 0] 30)).heap.size ((((w.alloc (.cells #[.int .i64 g.number, .slice A g.accs.length c, .slice B g.lines.length c2, .slice C g.offers.length c3, .int .i64 g.next, .int .i64 g.fees, .int .u64 g.link] 30)).alloc (.cells #[.string (codeOf s), .int .i64 (issOf s)] 49)).alloc (.cells #[.int .i64 n] 3)).alloc (.cells #[.int .i64 0, .slice none 0 0, .slice none 0 0, .slice none 0 0, .int .i64 0, .int .i64 0, .int .u64 0] 30)) w') := by
    refine Lib.hid ?_
    have hL := h.below hb0
    have hcell := (HasB.cs1 bx3)
    revert hL hcell
    generalize (((w.alloc (.cells #[.int .i64 g.number, .slice A g.accs.length c, .slice B g.lines.length c2, .slice C g.offers.length c3, .int .i64 g.next, .int .i64 g.fees, .int .u64 g.link] 30)).alloc (.cells #[.string (codeOf s), .int .i64 (issOf s)] 49)).alloc (.cells #[.int .i64 n] 3)).alloc (.cells #[.int .i64 0, .slice none 0 0, .slice none 0 0, .slice none 0 0, .int .i64 0, .int .i64 0, .int .u64 0] 30) = W0
    intro hL hcell
    by_cases hs0 : s = 0
    · have hE : chgE (giveE n) (crE n) g i s = giveE n (getA i g.accs) := if_pos hs0
      rw [hE]
      refine change_native P g i n s _ _ _ W0 hs hn0 hn1 hok hhas 19 (giveE n) (giveU n) _ hs0 (fun _ _ => rfl) (fun W hW hA => agive_run P g.accs i n (getA i g.accs) _ W hn0 hn1 hok.accs (getA_has hhas) hA) (chgG (giveE n) (giveU n) (crE n) (crU n) g i s) (fun h0 => ?_) (fun h0 => ?_) hL
      · unfold chgG; rw [hE, if_neg (by omega), if_pos hs0]
      · unfold chgG; rw [hE, if_pos h0]
    · by_cases hi : issOf s = i
      · have hE : chgE (giveE n) (crE n) g i s = 0 := by unfold chgE; rw [if_neg hs0, if_pos hi]
        have hG : chgG (giveE n) (giveU n) (crE n) (crU n) g i s = g := by unfold chgG; rw [hE, if_neg (by omega), if_neg hs0, if_pos hi]
        rw [hE, hG]
        exact change_issuer P g i n s _ _ _ W0 hs hn0 hn1 hok hhas _ _ (by omega) hi hL
      · cases hl : hasL i s g.lines
        · have hE : chgE (giveE n) (crE n) g i s = 70 := by unfold chgE; rw [if_neg hs0, if_neg hi, if_neg (by rw [hl]; simp)]
          have hG : chgG (giveE n) (giveU n) (crE n) (crU n) g i s = zeroG := by unfold chgG; rw [hE, if_pos (by omega)]
          rw [hE, hG]
          exact change_none P g i n s _ _ _ W0 hs hn0 hn1 hok hhas _ _ (by omega) hi hl hL
        · have hE : chgE (giveE n) (crE n) g i s = crE n (getL i s g.lines) := by unfold chgE; rw [if_neg hs0, if_neg hi, if_pos hl]
          rw [hE]
          refine change_line P g i n s _ _ _ W0 hs hn0 hn1 hok hhas 54 #[.pointer (some ⟨w.heap.size + 2, 0, none⟩)] (crE n) (crU n) (getL i s g.lines) _ (by omega) hi (getL_has hl) (fun _ _ => rfl) (cr1_run g.accs n (w.heap.size + 2) _ W0 (hok.lines.each _ _ (getL_has hl)) hn0 hn1 hcell) (chgG (giveE n) (giveU n) (crE n) (crU n) g i s) (fun h0 => ?_) (fun h0 => ?_) hL
          · unfold chgG; rw [hE, if_neg (by omega), if_neg hs0, if_neg hi]
          · unfold chgG; rw [hE, if_pos h0]
  have HX0 := Lib.hid bx1
  have HS0 := Lib.hid bx2
  have HN0 := Lib.hid bx3
  have HZ0 := Lib.hid bx4
  have HB0 := Lib.hid hb0
  generalize (chgG (giveE n) (giveU n) (crE n) (crU n) g i s) = G' at *
  generalize (chgE (giveE n) (crE n) g i s) = E at *
  unfold valG valS at *
  clear h hok hhas hb0 bx1 bx2 bx3 bx4
  go_enter Try.func30, Try.ntmps30
  go_upto_region 1 with fail
  have hzz : w.heap.size + 3 < ((((w.alloc (.cells #[.int .i64 g.number, .slice A g.accs.length c, .slice B g.lines.length c2, .slice C g.offers.length c3, .int .i64 g.next, .int .i64 g.fees, .int .u64 g.link] 30)).alloc (.cells #[.string (codeOf s), .int .i64 (issOf s)] 49)).alloc (.cells #[.int .i64 n] 3)).alloc (.cells #[.int .i64 0, .slice none 0 0, .slice none 0 0, .slice none 0 0, .int .i64 0, .int .i64 0, .int .u64 0] 30)).heap.size := HZ0.out.lt
  generalize (((w.alloc (.cells #[.int .i64 g.number, .slice A g.accs.length c, .slice B g.lines.length c2, .slice C g.offers.length c3, .int .i64 g.next, .int .i64 g.fees, .int .u64 g.link] 30)).alloc (.cells #[.string (codeOf s), .int .i64 (issOf s)] 49)).alloc (.cells #[.int .i64 n] 3)).alloc (.cells #[.int .i64 0, .slice none 0 0, .slice none 0 0, .slice none 0 0, .int .i64 0, .int .i64 0, .int .u64 0] 30) = W0 at *
  obtain ⟨x_0, x_1, x_2, x_3, x_4, x_5, x_6, _⟩ := HX0.out.cs7
  obtain ⟨s_0, s_1, _⟩ := HS0.out.cs2
  have n_0 := HN0.out.cs1
  go_wp2_with fail
  refine HCH.out.mono ?_
  rintro e w5 ⟨va', vl', vo', rfl, hl5, hb5⟩
  obtain ⟨A9, c9, B9, d9, C9, e9, rfl, rfl, rfl, _⟩ := hl5.form
  have HL5 := Lib.hid hl5
  have HZ5 := Lib.hid (HZ0.out.below hb5)
  have HB5 := Lib.hid (bstep HB0.out hb5)
  clear x_0 x_1 x_2 x_3 x_4 x_5 x_6 s_0 s_1 n_0 hl5 hb5
  have HFB := Lib.hid (show HasB (w.heap.size + 3) (.cells #[.int .i64 G'.number, .slice A9 G'.accs.length c9, .slice B9 G'.lines.length d9, .slice C9 G'.offers.length e9, .int .i64 G'.next, .int .i64 G'.fees, .int .u64 G'.link] 30 (0, 0)) ((((((((w5).setCell ⟨w.heap.size + 3, 0, none⟩ (.int .i64 G'.number)).setCell ⟨w.heap.size + 3, 1, none⟩ (.slice A9 G'.accs.length c9)).setCell ⟨w.heap.size + 3, 2, none⟩ (.slice B9 G'.lines.length d9)).setCell ⟨w.heap.size + 3, 3, none⟩ (.slice C9 G'.offers.length e9)).setCell ⟨w.heap.size + 3, 4, none⟩ (.int .i64 G'.next)).setCell ⟨w.heap.size + 3, 5, none⟩ (.int .i64 G'.fees)).setCell ⟨w.heap.size + 3, 6, none⟩ (.int .u64 G'.link)) from set7 HZ5.out)
  have HFL := Lib.hid (show LedAt (fun b => w.heap.size ≤ b) ((((((((w5).setCell ⟨w.heap.size + 3, 0, none⟩ (.int .i64 G'.number)).setCell ⟨w.heap.size + 3, 1, none⟩ (.slice A9 G'.accs.length c9)).setCell ⟨w.heap.size + 3, 2, none⟩ (.slice B9 G'.lines.length d9)).setCell ⟨w.heap.size + 3, 3, none⟩ (.slice C9 G'.offers.length e9)).setCell ⟨w.heap.size + 3, 4, none⟩ (.int .i64 G'.next)).setCell ⟨w.heap.size + 3, 5, none⟩ (.int .i64 G'.fees)).setCell ⟨w.heap.size + 3, 6, none⟩ (.int .u64 G'.link)) (.slice A9 G'.accs.length c9) (.slice B9 G'.lines.length d9) (.slice C9 G'.offers.length e9) G' from HL5.out.both (by simp [World.setCell]) (fun j hj hp => (by have hp2 : W0.heap.size ≤ j := hp; exact (Below.heap_setCell _ ⟨w.heap.size + 3, 6, none⟩ (.int .u64 G'.link) j (by show j ≠ w.heap.size + 3; omega)).trans ((Below.heap_setCell _ ⟨w.heap.size + 3, 5, none⟩ (.int .i64 G'.fees) j (by show j ≠ w.heap.size + 3; omega)).trans ((Below.heap_setCell _ ⟨w.heap.size + 3, 4, none⟩ (.int .i64 G'.next) j (by show j ≠ w.heap.size + 3; omega)).trans ((Below.heap_setCell _ ⟨w.heap.size + 3, 3, none⟩ (.slice C9 G'.offers.length e9) j (by show j ≠ w.heap.size + 3; omega)).trans ((Below.heap_setCell _ ⟨w.heap.size + 3, 2, none⟩ (.slice B9 G'.lines.length d9) j (by show j ≠ w.heap.size + 3; omega)).trans ((Below.heap_setCell _ ⟨w.heap.size + 3, 1, none⟩ (.slice A9 G'.accs.length c9) j (by show j ≠ w.heap.size + 3; omega)).trans ((Below.heap_setCell _ ⟨w.heap.size + 3, 0, none⟩ (.int .i64 G'.number) j (by show j ≠ w.heap.size + 3; omega)).trans ((rfl : w5.heap[j]? = w5.heap[j]?)))))))))) (fun j _ h => by have h2 : W0.heap.size ≤ j := h; omega))
  have HFX := Lib.hid (bset (bset (bset (bset (bset (bset (bset (HB5.out) (p := ⟨w.heap.size + 3, 0, none⟩) (by show w.heap.size ≤ w.heap.size + 3; omega) (.int .i64 G'.number)) (p := ⟨w.heap.size + 3, 1, none⟩) (by show w.heap.size ≤ w.heap.size + 3; omega) (.slice A9 G'.accs.length c9)) (p := ⟨w.heap.size + 3, 2, none⟩) (by show w.heap.size ≤ w.heap.size + 3; omega) (.slice B9 G'.lines.length d9)) (p := ⟨w.heap.size + 3, 3, none⟩) (by show w.heap.size ≤ w.heap.size + 3; omega) (.slice C9 G'.offers.length e9)) (p := ⟨w.heap.size + 3, 4, none⟩) (by show w.heap.size ≤ w.heap.size + 3; omega) (.int .i64 G'.next)) (p := ⟨w.heap.size + 3, 5, none⟩) (by show w.heap.size ≤ w.heap.size + 3; omega) (.int .i64 G'.fees)) (p := ⟨w.heap.size + 3, 6, none⟩) (by show w.heap.size ≤ w.heap.size + 3; omega) (.int .u64 G'.link))
  obtain ⟨z_0, z_1, z_2, z_3, z_4, z_5, z_6, _⟩ := HZ5.out.cs7
  have zf0 := HZ5.out.fr 0
  have zf1 := HZ5.out.fr 1
  have zf2 := HZ5.out.fr 2
  have zf3 := HZ5.out.fr 3
  have zf4 := HZ5.out.fr 4
  have zf5 := HZ5.out.fr 5
  have zf6 := HZ5.out.fr 6
  have HK := Lib.hid (show ((((((((w5).setCell ⟨w.heap.size + 3, 0, none⟩ (.int .i64 G'.number)).setCell ⟨w.heap.size + 3, 1, none⟩ (.slice A9 G'.accs.length c9)).setCell ⟨w.heap.size + 3, 2, none⟩ (.slice B9 G'.lines.length d9)).setCell ⟨w.heap.size + 3, 3, none⟩ (.slice C9 G'.offers.length e9)).setCell ⟨w.heap.size + 3, 4, none⟩ (.int .i64 G'.next)).setCell ⟨w.heap.size + 3, 5, none⟩ (.int .i64 G'.fees)).setCell ⟨w.heap.size + 3, 6, none⟩ (.int .u64 G'.link)).heap[w.heap.size + 3]? = some (.cells #[.int .i64 G'.number, .slice A9 G'.accs.length c9, .slice B9 G'.lines.length d9, .slice C9 G'.offers.length e9, .int .i64 G'.next, .int .i64 G'.fees, .int .u64 G'.link] 30 (0, 0)) from HFB.out)
  obtain ⟨r_0, r_1, r_2, r_3, r_4, r_5, r_6, _⟩ := HFB.out.cs7
  go_wp2_with fail
  refine bodyPost_ret (v := .tuple #[.agg #[.int .i64 G'.number, .slice A9 G'.accs.length c9, .slice B9 G'.lines.length d9, .slice C9 G'.offers.length e9, .int .i64 G'.next, .int .i64 G'.fees, .int .u64 G'.link], .int .i64 E]) ?_ rfl ⟨_, _, _, rfl, HFL.out, HFX.out⟩
  simp [results, Try.results30, go_sem, r_0, r_1, r_2, r_3, r_4, r_5, r_6, (show _ = _ from HK.out)]

set_option maxRecDepth 100000 in
set_option maxHeartbeats 8000000 in
theorem debit_run (P : Nat → Prop) (g : Led) (i n : Int) (s : Nat) (va vl vo : Value) (w : World) (hs : s ≤ 2) (hn0 : 0 ≤ n) (hn1 : n ≤ 1000000000000) (hok : LedW g) (hhas : hasA i g.accs = true) (h : LedAt P w va vl vo g) :
    Calls Try.prog 28 #[valG g va vl vo, .int .i64 i, valS s, .int .i64 n] w fun e w' => ∃ va' vl' vo', e = .returned (.tuple #[valG (chgG (takeE n) (takeU n) (dbE n) (dbU n) g i s) va' vl' vo', .int .i64 (chgE (takeE n) (dbE n) g i s)]) ∧ LedAt (fun b => w.heap.size ≤ b) w' va' vl' vo' (chgG (takeE n) (takeU n) (dbE n) (dbU n) g i s) ∧ Below w.heap.size w w' := by
  obtain ⟨A, c, B, c2, C, c3, rfl, rfl, rfl, hc, hm, hc2, hm2, hc3, hm3⟩ := h.form
  have hb0 := balloc (balloc (balloc (balloc (bref w) (.cells #[.int .i64 g.number, .slice A g.accs.length c, .slice B g.lines.length c2, .slice C g.offers.length c3, .int .i64 g.next, .int .i64 g.fees, .int .u64 g.link] 30)) (.cells #[.string (codeOf s), .int .i64 (issOf s)] 49)) (.cells #[.int .i64 n] 3)) (.cells #[.int .i64 0, .slice none 0 0, .slice none 0 0, .slice none 0 0, .int .i64 0, .int .i64 0, .int .u64 0] 30)
  obtain ⟨bx1, bx2, bx3, bx4⟩ := box4b w (.cells #[.int .i64 g.number, .slice A g.accs.length c, .slice B g.lines.length c2, .slice C g.offers.length c3, .int .i64 g.next, .int .i64 g.fees, .int .u64 g.link] 30) (.cells #[.string (codeOf s), .int .i64 (issOf s)] 49) (.cells #[.int .i64 n] 3) (.cells #[.int .i64 0, .slice none 0 0, .slice none 0 0, .slice none 0 0, .int .i64 0, .int .i64 0, .int .u64 0] 30)
  have HCH : Hid (Calls Try.prog 52 #[valG g (.slice A g.accs.length c) (.slice B g.lines.length c2) (.slice C g.offers.length c3), .int .i64 i, valS s, .int .i64 n, .func (.func 18) #[] #[], .func (.func 53) #[] #[.pointer (some ⟨w.heap.size + 2, 0, none⟩)]] ((((w.alloc (.cells #[.int .i64 g.number, .slice A g.accs.length c, .slice B g.lines.length c2, .slice C g.offers.length c3, .int .i64 g.next, .int .i64 g.fees, .int .u64 g.link] 30)).alloc (.cells #[.string (codeOf s), .int .i64 (issOf s)] 49)).alloc (.cells #[.int .i64 n] 3)).alloc (.cells #[.int .i64 0, .slice none 0 0, .slice none 0 0, .slice none 0 0, .int .i64 0, .int .i64 0, .int .u64 0] 30)) fun e w' => ∃ va' vl' vo', e = .returned (.tuple #[valG (chgG (takeE n) (takeU n) (dbE n) (dbU n) g i s) va' vl' vo', .int .i64 (chgE (takeE n) (dbE n) g i s)]) ∧ LedAt (fun b => ((((w.alloc (.cells #[.int .i64 g.number, .slice A g.accs.length c, .slice B g.lines.length c2, .slice C g.offers.length c3, .int .i64 g.next, .int .i64 g.fees, .int .u64 g.link] 30)).alloc (.cells #[.string (codeOf s), .int .i64 (issOf s)] 49)).alloc (.cells #[.int .i64 n] 3)).alloc (.cells #[.int .i64 0, .slice none 0 0, .slice none 0 0, .slice none 0 0, .int .i64 0, .int .i64 0, .int .u64 0] 30)).heap.size ≤ b) w' va' vl' vo' (chgG (takeE n) (takeU n) (dbE n) (dbU n) g i s) ∧ Below ((((w.alloc (.cells #[.int .i64 g.number, .slice A g.accs.length c, .slice B g.lines.length c2, .slice C g.offers.length c3, .int .i64 g.next, .int .i64 g.fees, .int .u64 g.link] 30)).alloc (.cells #[.string (codeOf s), .int .i64 (issOf s)] 49)).alloc (.cells #[.int .i64 n] 3)).alloc (.cells #[.int .i64 0, .slice none 0 0, .slice none 0 0, .slice none 0 0, .int .i64 0, .int .i64 0, .int .u64 0] 30)).heap.size ((((w.alloc (.cells #[.int .i64 g.number, .slice A g.accs.length c, .slice B g.lines.length c2, .slice C g.offers.length c3, .int .i64 g.next, .int .i64 g.fees, .int .u64 g.link] 30)).alloc (.cells #[.string (codeOf s), .int .i64 (issOf s)] 49)).alloc (.cells #[.int .i64 n] 3)).alloc (.cells #[.int .i64 0, .slice none 0 0, .slice none 0 0, .slice none 0 0, .int .i64 0, .int .i64 0, .int .u64 0] 30)) w') := by
    refine Lib.hid ?_
    have hL := h.below hb0
    have hcell := (HasB.cs1 bx3)
    revert hL hcell
    generalize (((w.alloc (.cells #[.int .i64 g.number, .slice A g.accs.length c, .slice B g.lines.length c2, .slice C g.offers.length c3, .int .i64 g.next, .int .i64 g.fees, .int .u64 g.link] 30)).alloc (.cells #[.string (codeOf s), .int .i64 (issOf s)] 49)).alloc (.cells #[.int .i64 n] 3)).alloc (.cells #[.int .i64 0, .slice none 0 0, .slice none 0 0, .slice none 0 0, .int .i64 0, .int .i64 0, .int .u64 0] 30) = W0
    intro hL hcell
    by_cases hs0 : s = 0
    · have hE : chgE (takeE n) (dbE n) g i s = takeE n (getA i g.accs) := if_pos hs0
      rw [hE]
      refine change_native P g i n s _ _ _ W0 hs hn0 hn1 hok hhas 18 (takeE n) (takeU n) _ hs0 (fun _ _ => rfl) (fun W hW hA => atake_run P g.accs i n (getA i g.accs) _ W hn0 hn1 hok.accs (getA_has hhas) hA) (chgG (takeE n) (takeU n) (dbE n) (dbU n) g i s) (fun h0 => ?_) (fun h0 => ?_) hL
      · unfold chgG; rw [hE, if_neg (by omega), if_pos hs0]
      · unfold chgG; rw [hE, if_pos h0]
    · by_cases hi : issOf s = i
      · have hE : chgE (takeE n) (dbE n) g i s = 0 := by unfold chgE; rw [if_neg hs0, if_pos hi]
        have hG : chgG (takeE n) (takeU n) (dbE n) (dbU n) g i s = g := by unfold chgG; rw [hE, if_neg (by omega), if_neg hs0, if_pos hi]
        rw [hE, hG]
        exact change_issuer P g i n s _ _ _ W0 hs hn0 hn1 hok hhas _ _ (by omega) hi hL
      · cases hl : hasL i s g.lines
        · have hE : chgE (takeE n) (dbE n) g i s = 70 := by unfold chgE; rw [if_neg hs0, if_neg hi, if_neg (by rw [hl]; simp)]
          have hG : chgG (takeE n) (takeU n) (dbE n) (dbU n) g i s = zeroG := by unfold chgG; rw [hE, if_pos (by omega)]
          rw [hE, hG]
          exact change_none P g i n s _ _ _ W0 hs hn0 hn1 hok hhas _ _ (by omega) hi hl hL
        · have hE : chgE (takeE n) (dbE n) g i s = dbE n (getL i s g.lines) := by unfold chgE; rw [if_neg hs0, if_neg hi, if_pos hl]
          rw [hE]
          refine change_line P g i n s _ _ _ W0 hs hn0 hn1 hok hhas 53 #[.pointer (some ⟨w.heap.size + 2, 0, none⟩)] (dbE n) (dbU n) (getL i s g.lines) _ (by omega) hi (getL_has hl) (fun _ _ => rfl) (db1_run g.accs n (w.heap.size + 2) _ W0 (hok.lines.each _ _ (getL_has hl)) hn0 hn1 hcell) (chgG (takeE n) (takeU n) (dbE n) (dbU n) g i s) (fun h0 => ?_) (fun h0 => ?_) hL
          · unfold chgG; rw [hE, if_neg (by omega), if_neg hs0, if_neg hi]
          · unfold chgG; rw [hE, if_pos h0]
  have HX0 := Lib.hid bx1
  have HS0 := Lib.hid bx2
  have HN0 := Lib.hid bx3
  have HZ0 := Lib.hid bx4
  have HB0 := Lib.hid hb0
  generalize (chgG (takeE n) (takeU n) (dbE n) (dbU n) g i s) = G' at *
  generalize (chgE (takeE n) (dbE n) g i s) = E at *
  unfold valG valS at *
  clear h hok hhas hb0 bx1 bx2 bx3 bx4
  go_enter Try.func28, Try.ntmps28
  go_upto_region 1 with fail
  have hzz : w.heap.size + 3 < ((((w.alloc (.cells #[.int .i64 g.number, .slice A g.accs.length c, .slice B g.lines.length c2, .slice C g.offers.length c3, .int .i64 g.next, .int .i64 g.fees, .int .u64 g.link] 30)).alloc (.cells #[.string (codeOf s), .int .i64 (issOf s)] 49)).alloc (.cells #[.int .i64 n] 3)).alloc (.cells #[.int .i64 0, .slice none 0 0, .slice none 0 0, .slice none 0 0, .int .i64 0, .int .i64 0, .int .u64 0] 30)).heap.size := HZ0.out.lt
  generalize (((w.alloc (.cells #[.int .i64 g.number, .slice A g.accs.length c, .slice B g.lines.length c2, .slice C g.offers.length c3, .int .i64 g.next, .int .i64 g.fees, .int .u64 g.link] 30)).alloc (.cells #[.string (codeOf s), .int .i64 (issOf s)] 49)).alloc (.cells #[.int .i64 n] 3)).alloc (.cells #[.int .i64 0, .slice none 0 0, .slice none 0 0, .slice none 0 0, .int .i64 0, .int .i64 0, .int .u64 0] 30) = W0 at *
  obtain ⟨x_0, x_1, x_2, x_3, x_4, x_5, x_6, _⟩ := HX0.out.cs7
  obtain ⟨s_0, s_1, _⟩ := HS0.out.cs2
  have n_0 := HN0.out.cs1
  go_wp2_with fail
  refine HCH.out.mono ?_
  rintro e w5 ⟨va', vl', vo', rfl, hl5, hb5⟩
  obtain ⟨A9, c9, B9, d9, C9, e9, rfl, rfl, rfl, _⟩ := hl5.form
  have HL5 := Lib.hid hl5
  have HZ5 := Lib.hid (HZ0.out.below hb5)
  have HB5 := Lib.hid (bstep HB0.out hb5)
  clear x_0 x_1 x_2 x_3 x_4 x_5 x_6 s_0 s_1 n_0 hl5 hb5
  have HFB := Lib.hid (show HasB (w.heap.size + 3) (.cells #[.int .i64 G'.number, .slice A9 G'.accs.length c9, .slice B9 G'.lines.length d9, .slice C9 G'.offers.length e9, .int .i64 G'.next, .int .i64 G'.fees, .int .u64 G'.link] 30 (0, 0)) ((((((((w5).setCell ⟨w.heap.size + 3, 0, none⟩ (.int .i64 G'.number)).setCell ⟨w.heap.size + 3, 1, none⟩ (.slice A9 G'.accs.length c9)).setCell ⟨w.heap.size + 3, 2, none⟩ (.slice B9 G'.lines.length d9)).setCell ⟨w.heap.size + 3, 3, none⟩ (.slice C9 G'.offers.length e9)).setCell ⟨w.heap.size + 3, 4, none⟩ (.int .i64 G'.next)).setCell ⟨w.heap.size + 3, 5, none⟩ (.int .i64 G'.fees)).setCell ⟨w.heap.size + 3, 6, none⟩ (.int .u64 G'.link)) from set7 HZ5.out)
  have HFL := Lib.hid (show LedAt (fun b => w.heap.size ≤ b) ((((((((w5).setCell ⟨w.heap.size + 3, 0, none⟩ (.int .i64 G'.number)).setCell ⟨w.heap.size + 3, 1, none⟩ (.slice A9 G'.accs.length c9)).setCell ⟨w.heap.size + 3, 2, none⟩ (.slice B9 G'.lines.length d9)).setCell ⟨w.heap.size + 3, 3, none⟩ (.slice C9 G'.offers.length e9)).setCell ⟨w.heap.size + 3, 4, none⟩ (.int .i64 G'.next)).setCell ⟨w.heap.size + 3, 5, none⟩ (.int .i64 G'.fees)).setCell ⟨w.heap.size + 3, 6, none⟩ (.int .u64 G'.link)) (.slice A9 G'.accs.length c9) (.slice B9 G'.lines.length d9) (.slice C9 G'.offers.length e9) G' from HL5.out.both (by simp [World.setCell]) (fun j hj hp => (by have hp2 : W0.heap.size ≤ j := hp; exact (Below.heap_setCell _ ⟨w.heap.size + 3, 6, none⟩ (.int .u64 G'.link) j (by show j ≠ w.heap.size + 3; omega)).trans ((Below.heap_setCell _ ⟨w.heap.size + 3, 5, none⟩ (.int .i64 G'.fees) j (by show j ≠ w.heap.size + 3; omega)).trans ((Below.heap_setCell _ ⟨w.heap.size + 3, 4, none⟩ (.int .i64 G'.next) j (by show j ≠ w.heap.size + 3; omega)).trans ((Below.heap_setCell _ ⟨w.heap.size + 3, 3, none⟩ (.slice C9 G'.offers.length e9) j (by show j ≠ w.heap.size + 3; omega)).trans ((Below.heap_setCell _ ⟨w.heap.size + 3, 2, none⟩ (.slice B9 G'.lines.length d9) j (by show j ≠ w.heap.size + 3; omega)).trans ((Below.heap_setCell _ ⟨w.heap.size + 3, 1, none⟩ (.slice A9 G'.accs.length c9) j (by show j ≠ w.heap.size + 3; omega)).trans ((Below.heap_setCell _ ⟨w.heap.size + 3, 0, none⟩ (.int .i64 G'.number) j (by show j ≠ w.heap.size + 3; omega)).trans ((rfl : w5.heap[j]? = w5.heap[j]?)))))))))) (fun j _ h => by have h2 : W0.heap.size ≤ j := h; omega))
  have HFX := Lib.hid (bset (bset (bset (bset (bset (bset (bset (HB5.out) (p := ⟨w.heap.size + 3, 0, none⟩) (by show w.heap.size ≤ w.heap.size + 3; omega) (.int .i64 G'.number)) (p := ⟨w.heap.size + 3, 1, none⟩) (by show w.heap.size ≤ w.heap.size + 3; omega) (.slice A9 G'.accs.length c9)) (p := ⟨w.heap.size + 3, 2, none⟩) (by show w.heap.size ≤ w.heap.size + 3; omega) (.slice B9 G'.lines.length d9)) (p := ⟨w.heap.size + 3, 3, none⟩) (by show w.heap.size ≤ w.heap.size + 3; omega) (.slice C9 G'.offers.length e9)) (p := ⟨w.heap.size + 3, 4, none⟩) (by show w.heap.size ≤ w.heap.size + 3; omega) (.int .i64 G'.next)) (p := ⟨w.heap.size + 3, 5, none⟩) (by show w.heap.size ≤ w.heap.size + 3; omega) (.int .i64 G'.fees)) (p := ⟨w.heap.size + 3, 6, none⟩) (by show w.heap.size ≤ w.heap.size + 3; omega) (.int .u64 G'.link))
  obtain ⟨z_0, z_1, z_2, z_3, z_4, z_5, z_6, _⟩ := HZ5.out.cs7
  have zf0 := HZ5.out.fr 0
  have zf1 := HZ5.out.fr 1
  have zf2 := HZ5.out.fr 2
  have zf3 := HZ5.out.fr 3
  have zf4 := HZ5.out.fr 4
  have zf5 := HZ5.out.fr 5
  have zf6 := HZ5.out.fr 6
  have HK := Lib.hid (show ((((((((w5).setCell ⟨w.heap.size + 3, 0, none⟩ (.int .i64 G'.number)).setCell ⟨w.heap.size + 3, 1, none⟩ (.slice A9 G'.accs.length c9)).setCell ⟨w.heap.size + 3, 2, none⟩ (.slice B9 G'.lines.length d9)).setCell ⟨w.heap.size + 3, 3, none⟩ (.slice C9 G'.offers.length e9)).setCell ⟨w.heap.size + 3, 4, none⟩ (.int .i64 G'.next)).setCell ⟨w.heap.size + 3, 5, none⟩ (.int .i64 G'.fees)).setCell ⟨w.heap.size + 3, 6, none⟩ (.int .u64 G'.link)).heap[w.heap.size + 3]? = some (.cells #[.int .i64 G'.number, .slice A9 G'.accs.length c9, .slice B9 G'.lines.length d9, .slice C9 G'.offers.length e9, .int .i64 G'.next, .int .i64 G'.fees, .int .u64 G'.link] 30 (0, 0)) from HFB.out)
  obtain ⟨r_0, r_1, r_2, r_3, r_4, r_5, r_6, _⟩ := HFB.out.cs7
  go_wp2_with fail
  refine bodyPost_ret (v := .tuple #[.agg #[.int .i64 G'.number, .slice A9 G'.accs.length c9, .slice B9 G'.lines.length d9, .slice C9 G'.offers.length e9, .int .i64 G'.next, .int .i64 G'.fees, .int .u64 G'.link], .int .i64 E]) ?_ rfl ⟨_, _, _, rfl, HFL.out, HFX.out⟩
  simp [results, Try.results28, go_sem, r_0, r_1, r_2, r_3, r_4, r_5, r_6, (show _ = _ from HK.out)]

end Go.Proofs.Ytfmdnhhdjjndbaa
