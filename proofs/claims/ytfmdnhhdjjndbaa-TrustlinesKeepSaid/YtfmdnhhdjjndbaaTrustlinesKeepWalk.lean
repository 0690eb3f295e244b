/- The walk of TrustlinesKeep: credits and debits are possible just as far as there is room, and as it is held, and lead back. -/
import Derived.Test.YtfmdnhhdjjndbaaT37q
namespace Go.Proofs.Ytfmdnhhdjjndbaa
set_option linter.unusedVariables false
set_option linter.unusedSimpArgs false
open Go.RowKit

theorem heldG_bd {g : Led} (hw : LedW g) (i : Int) (s : Nat) : 0 ≤ heldG g i s ∧ heldG g i s ≤ 1000000000000 := by
  have h1 := getA_bd hw.accs i
  have h2 := getL_bd hw.lines i s
  unfold heldG
  split
  · omega
  · split
    · exact h1
    · split
      · omega
      · omega

theorem code0 : (codeOf 0).toList = [] := by
  show ByteArray.toList ⟨#[]⟩ = []
  simp [ByteArray.toList, ByteArray.toList.loop, ByteArray.size]

theorem codeN {s : Nat} (h1 : 1 ≤ s) (h2 : s ≤ 2) : ¬ (codeOf s).toList = [] := by
  intro h
  have h3 := code_eq (x := s) (y := 0) h2 (by omega)
  rw [h, code0] at h3
  simp at h3
  omega

set_option maxRecDepth 100000 in
set_option maxHeartbeats 8000000 in
theorem walkTrustlinesKeep (a0 : Option Addr) (len0 cap0 : Nat) (z0 : List Int) (a1 : Int) (w : World) (w0 : IsRow .i64 w a0 len0 cap0 z0) (w1 : (Lit.int .u16 a1).wf = true) :
    Calls Try.prog 9 #[.slice a0 len0 cap0, .int .u16 a1] w fun e w' => e = .returned (.bool true) ∧ Below w.heap.size w w' := by
  have hu : 0 ≤ a1 ∧ a1 ≤ 65535 := (show IntKind.u16.min ≤ a1 ∧ a1 ≤ IntKind.u16.max by simpa [Lit.wf] using w1)
  clear w1
  have HR := Lib.hid w0
  clear w0
  go_enter Try.func9, Try.ntmps9
  go_wp2_with fail
  refine (New_run _ _ _ _ _ HR.out).mono ?_
  rintro e v1 ⟨rfl, hs1, hb1⟩
  have HS1 := Lib.hid hs1
  have HB1 := Lib.hid hb1
  clear hs1 hb1
  go_wp2_with fail
  refine (Ledger_run _ _ HS1.out).mono ?_
  rintro e v2 ⟨g, va, vl, vo, rfl, hg⟩
  obtain ⟨A, c, B, c2, C, c3, hva, hvl, hvo, hc, _, hc2, _, hc3, _⟩ := hg.at_.form
  subst hva
  subst hvl
  subst hvo
  have HW := Lib.hid hg.ok.w
  have HID := Lib.hid hg.acc
  have hn1 := hg.n1
  have hn5 := hg.n5
  have HL2 := Lib.hid hg.at_
  have HB2 := Lib.hid (show Below w.heap.size w v2 from Below.grown HB1.out hg.gr HB1.out.size (fun j hj => by cases hj; exact Nat.le_refl _))
  have hml := hg.ok.lines.len
  have HSR := Lib.hid hg.src
  have HGR := Lib.hid hg.gr
  clear hg
  obtain ⟨n, hn⟩ : ∃ x, g.accs.length = x := ⟨_, rfl⟩
  obtain ⟨m, hm⟩ : ∃ x, g.lines.length = x := ⟨_, rfl⟩
  obtain ⟨mo, hmo⟩ : ∃ x, g.offers.length = x := ⟨_, rfl⟩
  have HN := Lib.hid (And.intro hn (And.intro hm hmo))
  unfold valG
  rw [hn] at hc hn1 hn5 HL2 ⊢
  rw [hm] at hc2 hml HL2 ⊢
  rw [hmo] at hc3 HL2 ⊢
  clear hn hm hmo
  have HX3 := Lib.hid (show HasB v2.heap.size (.cells #[.int .i64 g.number, .slice A n c, .slice B m c2, .slice C mo c3, .int .i64 g.next, .int .i64 g.fees, .int .u64 g.link] 30 (0, 0)) (v2.alloc (.cells #[.int .i64 g.number, .slice A n c, .slice B m c2, .slice C mo c3, .int .i64 g.next, .int .i64 g.fees, .int .u64 g.link] 30)) from heap_alloc_new _ _)
  have hv1 : w.heap.size < v1.heap.size := HS1.out.lt
  have HL3 := Lib.hid (show LedAt (fun b => w.heap.size < b) (v2.alloc (.cells #[.int .i64 g.number, .slice A n c, .slice B m c2, .slice C mo c3, .int .i64 g.next, .int .i64 g.fees, .int .u64 g.link] 30)) (.slice A n c) (.slice B m c2) (.slice C mo c3) g from (HL2.out.both (Nat.le_refl _) (fun _ _ _ => rfl) (fun b _ hp => Nat.lt_of_lt_of_le hv1 hp)).alloc _)
  have HB3 := Lib.hid (balloc HB2.out (.cells #[.int .i64 g.number, .slice A n c, .slice B m c2, .slice C mo c3, .int .i64 g.next, .int .i64 g.fees, .int .u64 g.link] 30))
  have HS3 := Lib.hid (HSR.out.alloc (.cells #[.int .i64 g.number, .slice A n c, .slice B m c2, .slice C mo c3, .int .i64 g.next, .int .i64 g.fees, .int .u64 g.link] 30))
  have hgb : w.heap.size < v2.heap.size := HSR.out.lt
  clear HL2 HSR HGR HS1 HB1 HB2
  go_upto_region 3 with fail
  generalize v2.alloc (.cells #[.int .i64 g.number, .slice A n c, .slice B m c2, .slice C mo c3, .int .i64 g.next, .int .i64 g.fees, .int .u64 g.link] 30) = v3 at *
  generalize v2.heap.size = gb at *
  clear hv1
  obtain ⟨x_0, x_1, x_2, x_3, x_4, x_5, x_6, _⟩ := HX3.out.cs7
  go_wp2_with fail
  refine (Range_run _ _ 1 (n : Int) (by omega) (by omega) (by omega) HS3.out).mono ?_
  rintro e v4 ⟨ia, ia0, ia1, rfl, hs4, hg4⟩
  have HX4 := Lib.hid (HX3.out.grown hg4 (by omega))
  have HL4 := Lib.hid (HL3.out.grown hg4)
  have HB4 := Lib.hid (bgrow HB3.out hg4 (Nat.le_refl _))
  have HS4 := Lib.hid hs4
  clear hs4 hg4 x_0 x_1 x_2 x_3 x_4 x_5 x_6 HX3 HL3 HB3 HS3
  go_wp2_with fail
  refine (Asset_run _ _ HS4.out).mono ?_
  rintro e v5 ⟨s, hs2, rfl, hs5, hg5⟩
  have HA5 := Lib.hid (show HasB v5.heap.size (.cells #[.string (codeOf s), .int .i64 (issOf s)] 49 (0, 0)) (v5.alloc (.cells #[.string (codeOf s), .int .i64 (issOf s)] 49)) from heap_alloc_new _ _)
  have HX5 := Lib.hid ((HX4.out.grown hg5 (by omega)).alloc (.cells #[.string (codeOf s), .int .i64 (issOf s)] 49))
  have HL5 := Lib.hid ((HL4.out.grown hg5).alloc (.cells #[.string (codeOf s), .int .i64 (issOf s)] 49))
  have HB5 := Lib.hid (balloc (bgrow HB4.out hg5 (Nat.le_refl _)) (.cells #[.string (codeOf s), .int .i64 (issOf s)] 49))
  clear hs5 hg5 HX4 HL4 HB4 HS4
  have hmd : a1.tmod 700 = a1 % 700 := by rw [Int.tmod_eq_emod_of_nonneg (by omega)]
  obtain ⟨mm, hf, hf0, hf1⟩ : ∃ f : Int, a1 % 700 = f ∧ 0 ≤ f ∧ f < 700 := ⟨_, rfl, by omega, by omega⟩
  have HF := Lib.hid (And.intro hmd hf)
  clear hmd hf
  go_upto_region 4 with fail
  first
    | rw [HF.out.2]
    | rw [HF.out.1, HF.out.2]
  generalize v5.alloc (.cells #[.string (codeOf s), .int .i64 (issOf s)] 49) = W4 at *
  generalize v5.heap.size = ab at *
  have HIA := Lib.hid (show hasA ia g.accs = true from HID.out.has ia0 (by rw [HN.out.1]; exact ia1))
  clear HF hu
  obtain ⟨R, hR⟩ : ∃ R, roomG g ia s = R := ⟨_, rfl⟩
  obtain ⟨H, hH⟩ : ∃ H, heldG g ia s = H := ⟨_, rfl⟩
  obtain ⟨ow, how⟩ : ∃ ow, hasL ia s g.lines = ow := ⟨_, rfl⟩
  obtain ⟨is, his⟩ : ∃ is, (issOf s == ia) = is := ⟨_, rfl⟩
  obtain ⟨E, hE⟩ : ∃ E, chgE (giveE mm) (crE mm) g ia s = E := ⟨_, rfl⟩
  obtain ⟨F, hFF⟩ : ∃ E, chgE (takeE mm) (dbE mm) g ia s = E := ⟨_, rfl⟩
  obtain ⟨x, hx⟩ : ∃ x, chgG (giveE mm) (giveU mm) (crE mm) (crU mm) g ia s = x := ⟨_, rfl⟩
  obtain ⟨y, hy⟩ : ∃ x, chgG (takeE mm) (takeU mm) (dbE mm) (dbU mm) g ia s = x := ⟨_, rfl⟩
  have HCI := Lib.hid (cr_iff (i := ia) (s := s) (n := mm) HW.out HIA.out hf0 (by omega))
  have HDI := Lib.hid (db_iff (i := ia) (s := s) (n := mm) HW.out HIA.out hf0 (by omega))
  have HCB := Lib.hid (cr_back (i := ia) (s := s) (n := mm) HW.out HIA.out hf0 (by omega))
  have HOS := Lib.hid (fun h : hasL ia s g.lines = true => hasL_line HW.out h)
  have HDB := Lib.hid (fun h1 : 1 ≤ s => db_ok (i := ia) (s := s) (n := mm) HW.out h1 hf0)
  have HYI := Lib.hid (show F ≠ 0 → y = zeroG from fun h0 => by rw [← hy]; exact chgG_bad (by rw [hFF]; exact h0))
  have HHG := Lib.hid (fun W (hW : LedAt (fun b => w.heap.size < b) W (.slice A n c) (.slice B m c2) (.slice C mo c3) g) => theld_run (fun b => w.heap.size < b) g ia s _ _ _ W hs2 HW.out hW)
  have HRG := Lib.hid (fun W (hW : LedAt (fun b => w.heap.size < b) W (.slice A n c) (.slice B m c2) (.slice C mo c3) g) => troom_run (fun b => w.heap.size < b) g ia s _ _ _ W hs2 HW.out hW)
  have HCRG := Lib.hid (fun W (hW : LedAt (fun b => w.heap.size < b) W (.slice A n c) (.slice B m c2) (.slice C mo c3) g) => credit_run (fun b => w.heap.size < b) g ia mm s _ _ _ W hs2 hf0 (by omega) HW.out HIA.out hW)
  have HDBG := Lib.hid (fun W (hW : LedAt (fun b => w.heap.size < b) W (.slice A n c) (.slice B m c2) (.slice C mo c3) g) => debit_run (fun b => w.heap.size < b) g ia mm s _ _ _ W hs2 hf0 (by omega) HW.out HIA.out hW)
  have HISG := Lib.hid (fun W (hW : LedAt (fun b => w.heap.size < b) W (.slice A n c) (.slice B m c2) (.slice C mo c3) g) => issued_w (fun b => w.heap.size < b) g s _ W hs2 HW.out hW.l)
  have HFNG := Lib.hid (fun W (hW : LedAt (fun b => w.heap.size < b) W (.slice A n c) (.slice B m c2) (.slice C mo c3) g) => tfind_run (fun b => w.heap.size < b) g.lines ia s _ W hs2 HW.out.lines.ast (by have := HW.out.lines.len; omega) hW.l)
  have HHB := Lib.hid (heldG_bd HW.out ia s)
  have HTB := Lib.hid (issT_all (s := s) HW.out.lines)
  obtain ⟨T, hT⟩ : ∃ T, issT s g.lines = T := ⟨_, rfl⟩
  have HIS := Lib.hid his
  rw [hR, hE, how] at HCI
  rw [hH, hFF, how] at HDI
  rw [hE, hx, how, hT, hH] at HCB
  rw [how] at HOS HFNG
  rw [hFF, hy, hT] at HDB
  rw [hH] at HHG HHB
  rw [hR] at HRG
  rw [hE, hx] at HCRG
  rw [hFF, hy] at HDBG
  rw [hT] at HISG HTB
  clear hR hH how hE hFF hx hy hT
  obtain ⟨l0, l1, l2, hlv⟩ := valL_form2 (getL ia s g.lines)
  rw [hlv] at HFNG
  clear hlv
  generalize (getL ia s g.lines).bal = lbal at *
  generalize (getL ia s g.lines).lim = llim at *
  unfold valG valS at *
  have HX4 := Lib.hid HX5.out
  have HA4 := Lib.hid HA5.out
  have HL4 := Lib.hid HL5.out
  have HB4 := Lib.hid HB5.out
  clear HX5 HA5 HL5 HB5
  obtain ⟨s_0, s_1, _⟩ := HA4.out.cs2
  obtain ⟨x_0, x_1, x_2, x_3, x_4, x_5, x_6, _⟩ := HX4.out.cs7
  go_wp2_with fail
  refine (HCRG.out _ HL4.out).mono ?_
  rintro e v5 ⟨va, vl, vo, rfl, hl, hb⟩
  obtain ⟨A9, c9, B9, d9, C9, e9, rfl, rfl, rfl, _⟩ := hl.form
  have hba := balloc (bref v5) (.cells #[.int .i64 x.number, .slice A9 x.accs.length c9, .slice B9 x.lines.length d9, .slice C9 x.offers.length e9, .int .i64 x.next, .int .i64 x.fees, .int .u64 x.link] 30)
  have HX5 := Lib.hid ((HX4.out.below hb).below hba)
  have HA5 := Lib.hid ((HA4.out.below hb).below hba)
  have HL5 := Lib.hid ((HL4.out.below hb).below hba)
  have HB5 := Lib.hid (bstep (bstep HB4.out hb) hba)
  have HXL5 := Lib.hid (hl.below hba)
  have HXB5 := Lib.hid (show HasB v5.heap.size (.cells #[.int .i64 x.number, .slice A9 x.accs.length c9, .slice B9 x.lines.length d9, .slice C9 x.offers.length e9, .int .i64 x.next, .int .i64 x.fees, .int .u64 x.link] 30 (0, 0)) (v5.alloc (.cells #[.int .i64 x.number, .slice A9 x.accs.length c9, .slice B9 x.lines.length d9, .slice C9 x.offers.length e9, .int .i64 x.next, .int .i64 x.fees, .int .u64 x.link] 30)) from heap_alloc_new _ _)
  clear x_0 x_1 x_2 x_3 x_4 x_5 x_6 s_0 s_1 hba hb hl
  go_upto_region 5 with fail
  generalize v5.alloc (.cells #[.int .i64 x.number, .slice A9 x.accs.length c9, .slice B9 x.lines.length d9, .slice C9 x.offers.length e9, .int .i64 x.next, .int .i64 x.fees, .int .u64 x.link] 30) = W5 at *
  obtain ⟨PX, hPX⟩ : ∃ P : Nat → Prop, (fun b => W4.heap.size ≤ b) = P := ⟨_, rfl⟩
  rw [hPX] at HXL5
  clear hPX
  generalize v5.heap.size = xb at *
  obtain ⟨s_0, s_1, _⟩ := HA5.out.cs2
  obtain ⟨x_0, x_1, x_2, x_3, x_4, x_5, x_6, _⟩ := HX5.out.cs7
  go_wp2_with fail
  refine (HFNG.out _ HL5.out).mono ?_
  rintro e v6 ⟨rfl, hb⟩
  have hba := balloc (bref v6) (.cells #[.int .i64 l0, .string l1, .int .i64 l2, .int .i64 lbal, .int .i64 llim] 51)
  have HX6 := Lib.hid ((HX5.out.below hb).below hba)
  have HA6 := Lib.hid ((HA5.out.below hb).below hba)
  have HL6 := Lib.hid ((HL5.out.below hb).below hba)
  have HB6 := Lib.hid (bstep (bstep HB5.out hb) hba)
  have HXL6 := Lib.hid ((HXL5.out.below hb).below hba)
  have HXB6 := Lib.hid ((HXB5.out.below hb).below hba)
  clear x_0 x_1 x_2 x_3 x_4 x_5 x_6 s_0 s_1 hba hb
  go_upto_region 6 with fail
  generalize v6.alloc (.cells #[.int .i64 l0, .string l1, .int .i64 l2, .int .i64 lbal, .int .i64 llim] 51) = W6 at *
  obtain ⟨s_0, s_1, _⟩ := HA6.out.cs2
  go_upto_region 7 with fail
  try rw [HIS.out]
  clear s_0 s_1 his
  as_aux_lemma =>
    go_cut [72] (fun q W => q = .bool false ∧ Hid (HasB ab (.cells #[.string (codeOf s), .int .i64 (issOf s)] 49 (0, 0)) W) ∧ Hid (HasB gb (.cells #[.int .i64 g.number, .slice A n c, .slice B m c2, .slice C mo c3, .int .i64 g.next, .int .i64 g.fees, .int .u64 g.link] 30 (0, 0)) W) ∧ Hid (LedAt (fun b => w.heap.size < b) W (.slice A n c) (.slice B m c2) (.slice C mo c3) g) ∧ Hid (LedAt PX W (.slice A9 x.accs.length c9) (.slice B9 x.lines.length d9) (.slice C9 x.offers.length e9) x) ∧ Hid (HasB xb (.cells #[.int .i64 x.number, .slice A9 x.accs.length c9, .slice B9 x.lines.length d9, .slice C9 x.offers.length e9, .int .i64 x.next, .int .i64 x.fees, .int .u64 x.link] 30 (0, 0)) W) ∧ Hid (Below w.heap.size w W))
    case first =>
      have hI := HCI.out
      rcases Decidable.em (mm ≤ R) with hr | hr
      · have q1 : decide (mm ≤ R) = true := decide_eq_true hr
        rcases (show ow = true ∨ ow = false by cases ow <;> simp) with h1 | h1
        · subst h1
          have h0 : E = 0 := hI.2 ⟨hr, .inl rfl⟩
          subst h0
          clear hI hr
          obtain ⟨s_0, s_1, _⟩ := HA6.out.cs2
          obtain ⟨x_0, x_1, x_2, x_3, x_4, x_5, x_6, _⟩ := HX6.out.cs7
          go_wp2_with fail
          refine (HRG.out _ HL6.out).mono ?_
          rintro e V ⟨rfl, hb⟩
          have HAV := Lib.hid (HA6.out.below hb)
          clear x_0 x_1 x_2 x_3 x_4 x_5 x_6 s_0 s_1
          obtain ⟨s_0, s_1, _⟩ := HAV.out.cs2
          have HAV9 := Lib.hid (HA6.out.below hb)
          have HXV9 := Lib.hid (HX6.out.below hb)
          have HLV9 := Lib.hid (HL6.out.below hb)
          have HXLV9 := Lib.hid (HXL6.out.below hb)
          have HXBV9 := Lib.hid (HXB6.out.below hb)
          have HBV9 := Lib.hid (bstep HB6.out hb)
          clear hb
          go_wp2_with fail
          all_goals
            go_meet
            exact ⟨rfl, HAV9, HXV9, HLV9, HXLV9, HXBV9, HBV9⟩
        · subst h1
          rcases (show is = true ∨ is = false by cases is <;> simp) with h2 | h2
          · subst h2
            have h0 : E = 0 := hI.2 ⟨hr, .inr (.inl (by simpa using HIS.out))⟩
            subst h0
            clear hI hr
            obtain ⟨s_0, s_1, _⟩ := HA6.out.cs2
            obtain ⟨x_0, x_1, x_2, x_3, x_4, x_5, x_6, _⟩ := HX6.out.cs7
            go_wp2_with fail
            refine (HRG.out _ HL6.out).mono ?_
            rintro e V ⟨rfl, hb⟩
            have HAV := Lib.hid (HA6.out.below hb)
            clear x_0 x_1 x_2 x_3 x_4 x_5 x_6 s_0 s_1
            obtain ⟨s_0, s_1, _⟩ := HAV.out.cs2
            have HAV9 := Lib.hid (HA6.out.below hb)
            have HXV9 := Lib.hid (HX6.out.below hb)
            have HLV9 := Lib.hid (HL6.out.below hb)
            have HXLV9 := Lib.hid (HXL6.out.below hb)
            have HXBV9 := Lib.hid (HXB6.out.below hb)
            have HBV9 := Lib.hid (bstep HB6.out hb)
            clear hb
            go_wp2_with fail
            all_goals
              go_meet
              exact ⟨rfl, HAV9, HXV9, HLV9, HXLV9, HXBV9, HBV9⟩
          · subst h2
            rcases (show s = 0 ∨ 1 ≤ s by omega) with h3 | h3
            · have h0 : E = 0 := hI.2 ⟨hr, .inr (.inr h3)⟩
              subst h0
              have HC1 := Lib.hid (show (codeOf s).toList = [] by rw [h3]; exact code0)
              have HC2 := Lib.hid (show issOf s = 0 by rw [h3]; rfl)
              clear hI hr h3
              obtain ⟨s_0, s_1, _⟩ := HA6.out.cs2
              obtain ⟨x_0, x_1, x_2, x_3, x_4, x_5, x_6, _⟩ := HX6.out.cs7
              go_wp2_with fail
              refine (HRG.out _ HL6.out).mono ?_
              rintro e V ⟨rfl, hb⟩
              have HAV := Lib.hid (HA6.out.below hb)
              clear x_0 x_1 x_2 x_3 x_4 x_5 x_6 s_0 s_1
              obtain ⟨s_0, s_1, _⟩ := HAV.out.cs2
              have HAV9 := Lib.hid (HA6.out.below hb)
              have HXV9 := Lib.hid (HX6.out.below hb)
              have HLV9 := Lib.hid (HL6.out.below hb)
              have HXLV9 := Lib.hid (HXL6.out.below hb)
              have HXBV9 := Lib.hid (HXB6.out.below hb)
              have HBV9 := Lib.hid (bstep HB6.out hb)
              clear hb
              have hc1 := HC1.out
              have hc2 := HC2.out
              go_wp2_with fail
              all_goals
                go_meet
                exact ⟨rfl, HAV9, HXV9, HLV9, HXLV9, HXBV9, HBV9⟩
            · have h0 : E ≠ 0 := fun h => by
                rcases (hI.1 h).2 with h4 | h4 | h4
                · cases h4
                · have := HIS.out; rw [h4] at this; simp at this
                · omega
              have q2 : (E == 0) = false := by simpa using h0
              have hc1 : ¬ (codeOf s).toList = [] := codeN h3 hs2
              clear hI hr h3 h0
              obtain ⟨s_0, s_1, _⟩ := HA6.out.cs2
              obtain ⟨x_0, x_1, x_2, x_3, x_4, x_5, x_6, _⟩ := HX6.out.cs7
              go_wp2_with fail
              refine (HRG.out _ HL6.out).mono ?_
              rintro e V ⟨rfl, hb⟩
              have HAV := Lib.hid (HA6.out.below hb)
              clear x_0 x_1 x_2 x_3 x_4 x_5 x_6 s_0 s_1
              obtain ⟨s_0, s_1, _⟩ := HAV.out.cs2
              have HAV9 := Lib.hid (HA6.out.below hb)
              have HXV9 := Lib.hid (HX6.out.below hb)
              have HLV9 := Lib.hid (HL6.out.below hb)
              have HXLV9 := Lib.hid (HXL6.out.below hb)
              have HXBV9 := Lib.hid (HXB6.out.below hb)
              have HBV9 := Lib.hid (bstep HB6.out hb)
              clear hb
              go_wp2_with fail
              all_goals
                go_meet
                exact ⟨rfl, HAV9, HXV9, HLV9, HXLV9, HXBV9, HBV9⟩
      · have q1 : decide (mm ≤ R) = false := decide_eq_false hr
        have h0 : E ≠ 0 := fun h => hr (hI.1 h).1
        have q2 : (E == 0) = false := by simpa using h0
        clear hI hr h0
        obtain ⟨s_0, s_1, _⟩ := HA6.out.cs2
        obtain ⟨x_0, x_1, x_2, x_3, x_4, x_5, x_6, _⟩ := HX6.out.cs7
        go_wp2_with fail
        refine (HRG.out _ HL6.out).mono ?_
        rintro e V ⟨rfl, hb⟩
        have HAV := Lib.hid (HA6.out.below hb)
        clear x_0 x_1 x_2 x_3 x_4 x_5 x_6 s_0 s_1
        obtain ⟨s_0, s_1, _⟩ := HAV.out.cs2
        have HAV9 := Lib.hid (HA6.out.below hb)
        have HXV9 := Lib.hid (HX6.out.below hb)
        have HLV9 := Lib.hid (HL6.out.below hb)
        have HXLV9 := Lib.hid (HXL6.out.below hb)
        have HXBV9 := Lib.hid (HXB6.out.below hb)
        have HBV9 := Lib.hid (bstep HB6.out hb)
        clear hb
        go_wp2_with fail
        all_goals
          go_meet
          exact ⟨rfl, HAV9, HXV9, HLV9, HXLV9, HXBV9, HBV9⟩
    case rest =>
      clear HA6 HX6 HL6 HXL6 HXB6 HB6
      obtain ⟨rfl, HA7, HX7, HL7, HXL7, HXB7, HB7⟩ := hcut
      go_upto_region 9 with fail
      generalize wc = W7 at *
      obtain ⟨s_0, s_1, _⟩ := HA7.out.cs2
      obtain ⟨x_0, x_1, x_2, x_3, x_4, x_5, x_6, _⟩ := HX7.out.cs7
      go_wp2_with fail
      refine (HDBG.out _ HL7.out).mono ?_
      rintro e v8 ⟨va, vl, vo, rfl, hl, hb⟩
      obtain ⟨A8, c8, B8, d8, C8, e8, rfl, rfl, rfl, _⟩ := hl.form
      have hba := balloc (bref v8) (.cells #[.int .i64 y.number, .slice A8 y.accs.length c8, .slice B8 y.lines.length d8, .slice C8 y.offers.length e8, .int .i64 y.next, .int .i64 y.fees, .int .u64 y.link] 30)
      have HX8 := Lib.hid ((HX7.out.below hb).below hba)
      have HA8 := Lib.hid ((HA7.out.below hb).below hba)
      have HL8 := Lib.hid ((HL7.out.below hb).below hba)
      have HB8 := Lib.hid (bstep (bstep HB7.out hb) hba)
      have HXL8 := Lib.hid ((HXL7.out.below hb).below hba)
      have HXB8 := Lib.hid ((HXB7.out.below hb).below hba)
      have HYL8 := Lib.hid (hl.below hba)
      have HYB8 := Lib.hid (show HasB v8.heap.size (.cells #[.int .i64 y.number, .slice A8 y.accs.length c8, .slice B8 y.lines.length d8, .slice C8 y.offers.length e8, .int .i64 y.next, .int .i64 y.fees, .int .u64 y.link] 30 (0, 0)) (v8.alloc (.cells #[.int .i64 y.number, .slice A8 y.accs.length c8, .slice B8 y.lines.length d8, .slice C8 y.offers.length e8, .int .i64 y.next, .int .i64 y.fees, .int .u64 y.link] 30)) from heap_alloc_new _ _)
      clear x_0 x_1 x_2 x_3 x_4 x_5 x_6 s_0 s_1 hba hb hl
      go_upto_region 10 with fail
      generalize v8.alloc (.cells #[.int .i64 y.number, .slice A8 y.accs.length c8, .slice B8 y.lines.length d8, .slice C8 y.offers.length e8, .int .i64 y.next, .int .i64 y.fees, .int .u64 y.link] 30) = W8 at *
      obtain ⟨PY, hPY⟩ : ∃ P : Nat → Prop, (fun b => W7.heap.size ≤ b) = P := ⟨_, rfl⟩
      rw [hPY] at HYL8
      clear hPY
      generalize v8.heap.size = yb at *
      go_cut [100] (fun q W => q = .bool false ∧ Hid (HasB ab (.cells #[.string (codeOf s), .int .i64 (issOf s)] 49 (0, 0)) W) ∧ Hid (HasB gb (.cells #[.int .i64 g.number, .slice A n c, .slice B m c2, .slice C mo c3, .int .i64 g.next, .int .i64 g.fees, .int .u64 g.link] 30 (0, 0)) W) ∧ Hid (LedAt (fun b => w.heap.size < b) W (.slice A n c) (.slice B m c2) (.slice C mo c3) g) ∧ Hid (LedAt PX W (.slice A9 x.accs.length c9) (.slice B9 x.lines.length d9) (.slice C9 x.offers.length e9) x) ∧ Hid (HasB xb (.cells #[.int .i64 x.number, .slice A9 x.accs.length c9, .slice B9 x.lines.length d9, .slice C9 x.offers.length e9, .int .i64 x.next, .int .i64 x.fees, .int .u64 x.link] 30 (0, 0)) W) ∧ Hid (LedAt PY W (.slice A8 y.accs.length c8) (.slice B8 y.lines.length d8) (.slice C8 y.offers.length e8) y) ∧ Hid (HasB yb (.cells #[.int .i64 y.number, .slice A8 y.accs.length c8, .slice B8 y.lines.length d8, .slice C8 y.offers.length e8, .int .i64 y.next, .int .i64 y.fees, .int .u64 y.link] 30 (0, 0)) W) ∧ Hid (Below w.heap.size w W))
      case first =>
        have hI := HDI.out
        rcases Decidable.em (mm ≤ H) with hr | hr
        · have q1 : decide (mm ≤ H) = true := decide_eq_true hr
          rcases (show ow = true ∨ ow = false by cases ow <;> simp) with h1 | h1
          · subst h1
            have h0 : F = 0 := hI.2 ⟨hr, .inl rfl⟩
            subst h0
            clear hI hr
            obtain ⟨s_0, s_1, _⟩ := HA8.out.cs2
            obtain ⟨x_0, x_1, x_2, x_3, x_4, x_5, x_6, _⟩ := HX8.out.cs7
            go_wp2_with fail
            refine (HHG.out _ HL8.out).mono ?_
            rintro e V ⟨rfl, hb⟩
            have HAV := Lib.hid (HA8.out.below hb)
            clear x_0 x_1 x_2 x_3 x_4 x_5 x_6 s_0 s_1
            obtain ⟨s_0, s_1, _⟩ := HAV.out.cs2
            have HAV9 := Lib.hid (HA8.out.below hb)
            have HXV9 := Lib.hid (HX8.out.below hb)
            have HLV9 := Lib.hid (HL8.out.below hb)
            have HXLV9 := Lib.hid (HXL8.out.below hb)
            have HXBV9 := Lib.hid (HXB8.out.below hb)
            have HYLV9 := Lib.hid (HYL8.out.below hb)
            have HYBV9 := Lib.hid (HYB8.out.below hb)
            have HBV9 := Lib.hid (bstep HB8.out hb)
            clear hb
            go_wp2_with fail
            all_goals
              go_meet
              exact ⟨rfl, HAV9, HXV9, HLV9, HXLV9, HXBV9, HYLV9, HYBV9, HBV9⟩
          · subst h1
            rcases (show is = true ∨ is = false by cases is <;> simp) with h2 | h2
            · subst h2
              have h0 : F = 0 := hI.2 ⟨hr, .inr (.inl (by simpa using HIS.out))⟩
              subst h0
              clear hI hr
              obtain ⟨s_0, s_1, _⟩ := HA8.out.cs2
              obtain ⟨x_0, x_1, x_2, x_3, x_4, x_5, x_6, _⟩ := HX8.out.cs7
              go_wp2_with fail
              refine (HHG.out _ HL8.out).mono ?_
              rintro e V ⟨rfl, hb⟩
              have HAV := Lib.hid (HA8.out.below hb)
              clear x_0 x_1 x_2 x_3 x_4 x_5 x_6 s_0 s_1
              obtain ⟨s_0, s_1, _⟩ := HAV.out.cs2
              have HAV9 := Lib.hid (HA8.out.below hb)
              have HXV9 := Lib.hid (HX8.out.below hb)
              have HLV9 := Lib.hid (HL8.out.below hb)
              have HXLV9 := Lib.hid (HXL8.out.below hb)
              have HXBV9 := Lib.hid (HXB8.out.below hb)
              have HYLV9 := Lib.hid (HYL8.out.below hb)
              have HYBV9 := Lib.hid (HYB8.out.below hb)
              have HBV9 := Lib.hid (bstep HB8.out hb)
              clear hb
              go_wp2_with fail
              all_goals
                go_meet
                exact ⟨rfl, HAV9, HXV9, HLV9, HXLV9, HXBV9, HYLV9, HYBV9, HBV9⟩
            · subst h2
              rcases (show s = 0 ∨ 1 ≤ s by omega) with h3 | h3
              · have h0 : F = 0 := hI.2 ⟨hr, .inr (.inr h3)⟩
                subst h0
                have HC1 := Lib.hid (show (codeOf s).toList = [] by rw [h3]; exact code0)
                have HC2 := Lib.hid (show issOf s = 0 by rw [h3]; rfl)
                clear hI hr h3
                obtain ⟨s_0, s_1, _⟩ := HA8.out.cs2
                obtain ⟨x_0, x_1, x_2, x_3, x_4, x_5, x_6, _⟩ := HX8.out.cs7
                go_wp2_with fail
                refine (HHG.out _ HL8.out).mono ?_
                rintro e V ⟨rfl, hb⟩
                have HAV := Lib.hid (HA8.out.below hb)
                clear x_0 x_1 x_2 x_3 x_4 x_5 x_6 s_0 s_1
                obtain ⟨s_0, s_1, _⟩ := HAV.out.cs2
                have HAV9 := Lib.hid (HA8.out.below hb)
                have HXV9 := Lib.hid (HX8.out.below hb)
                have HLV9 := Lib.hid (HL8.out.below hb)
                have HXLV9 := Lib.hid (HXL8.out.below hb)
                have HXBV9 := Lib.hid (HXB8.out.below hb)
                have HYLV9 := Lib.hid (HYL8.out.below hb)
                have HYBV9 := Lib.hid (HYB8.out.below hb)
                have HBV9 := Lib.hid (bstep HB8.out hb)
                clear hb
                have hc1 := HC1.out
                have hc2 := HC2.out
                go_wp2_with fail
                all_goals
                  go_meet
                  exact ⟨rfl, HAV9, HXV9, HLV9, HXLV9, HXBV9, HYLV9, HYBV9, HBV9⟩
              · have h0 : F ≠ 0 := fun h => by
                  rcases (hI.1 h).2 with h4 | h4 | h4
                  · cases h4
                  · have := HIS.out; rw [h4] at this; simp at this
                  · omega
                have q2 : (F == 0) = false := by simpa using h0
                have hc1 : ¬ (codeOf s).toList = [] := codeN h3 hs2
                clear hI hr h3 h0
                obtain ⟨s_0, s_1, _⟩ := HA8.out.cs2
                obtain ⟨x_0, x_1, x_2, x_3, x_4, x_5, x_6, _⟩ := HX8.out.cs7
                go_wp2_with fail
                refine (HHG.out _ HL8.out).mono ?_
                rintro e V ⟨rfl, hb⟩
                have HAV := Lib.hid (HA8.out.below hb)
                clear x_0 x_1 x_2 x_3 x_4 x_5 x_6 s_0 s_1
                obtain ⟨s_0, s_1, _⟩ := HAV.out.cs2
                have HAV9 := Lib.hid (HA8.out.below hb)
                have HXV9 := Lib.hid (HX8.out.below hb)
                have HLV9 := Lib.hid (HL8.out.below hb)
                have HXLV9 := Lib.hid (HXL8.out.below hb)
                have HXBV9 := Lib.hid (HXB8.out.below hb)
                have HYLV9 := Lib.hid (HYL8.out.below hb)
                have HYBV9 := Lib.hid (HYB8.out.below hb)
                have HBV9 := Lib.hid (bstep HB8.out hb)
                clear hb
                go_wp2_with fail
                all_goals
                  go_meet
                  exact ⟨rfl, HAV9, HXV9, HLV9, HXLV9, HXBV9, HYLV9, HYBV9, HBV9⟩
        · have q1 : decide (mm ≤ H) = false := decide_eq_false hr
          have h0 : F ≠ 0 := fun h => hr (hI.1 h).1
          have q2 : (F == 0) = false := by simpa using h0
          clear hI hr h0
          obtain ⟨s_0, s_1, _⟩ := HA8.out.cs2
          obtain ⟨x_0, x_1, x_2, x_3, x_4, x_5, x_6, _⟩ := HX8.out.cs7
          go_wp2_with fail
          refine (HHG.out _ HL8.out).mono ?_
          rintro e V ⟨rfl, hb⟩
          have HAV := Lib.hid (HA8.out.below hb)
          clear x_0 x_1 x_2 x_3 x_4 x_5 x_6 s_0 s_1
          obtain ⟨s_0, s_1, _⟩ := HAV.out.cs2
          have HAV9 := Lib.hid (HA8.out.below hb)
          have HXV9 := Lib.hid (HX8.out.below hb)
          have HLV9 := Lib.hid (HL8.out.below hb)
          have HXLV9 := Lib.hid (HXL8.out.below hb)
          have HXBV9 := Lib.hid (HXB8.out.below hb)
          have HYLV9 := Lib.hid (HYL8.out.below hb)
          have HYBV9 := Lib.hid (HYB8.out.below hb)
          have HBV9 := Lib.hid (bstep HB8.out hb)
          clear hb
          go_wp2_with fail
          all_goals
            go_meet
            exact ⟨rfl, HAV9, HXV9, HLV9, HXLV9, HXBV9, HYLV9, HYBV9, HBV9⟩
      case rest =>
        clear HA8 HX8 HL8 HXL8 HXB8 HYL8 HYB8 HB8
        obtain ⟨rfl, HA9, HX9, HL9, HXL9, HXB9, HYL9, HYB9, HB9⟩ := hcut
        go_upto_region 12 with fail
        go_upto_if 102 with fail
        generalize wc = W9 at *
        go_cut [] (fun W => Hid (HasB ab (.cells #[.string (codeOf s), .int .i64 (issOf s)] 49 (0, 0)) W) ∧ Hid (HasB gb (.cells #[.int .i64 g.number, .slice A n c, .slice B m c2, .slice C mo c3, .int .i64 g.next, .int .i64 g.fees, .int .u64 g.link] 30 (0, 0)) W) ∧ Hid (LedAt (fun b => w.heap.size < b) W (.slice A n c) (.slice B m c2) (.slice C mo c3) g) ∧ Hid (LedAt PX W (.slice A9 x.accs.length c9) (.slice B9 x.lines.length d9) (.slice C9 x.offers.length e9) x) ∧ Hid (HasB xb (.cells #[.int .i64 x.number, .slice A9 x.accs.length c9, .slice B9 x.lines.length d9, .slice C9 x.offers.length e9, .int .i64 x.next, .int .i64 x.fees, .int .u64 x.link] 30 (0, 0)) W) ∧ Hid (LedAt PY W (.slice A8 y.accs.length c8) (.slice B8 y.lines.length d8) (.slice C8 y.offers.length e8) y) ∧ Hid (HasB yb (.cells #[.int .i64 y.number, .slice A8 y.accs.length c8, .slice B8 y.lines.length d8, .slice C8 y.offers.length e8, .int .i64 y.next, .int .i64 y.fees, .int .u64 y.link] 30 (0, 0)) W) ∧ Hid (Below w.heap.size w W))
        case first =>
          rcases Decidable.em (E = 0) with h0 | h0
          · subst h0
            obtain ⟨hxw, hxh, hxe, hxg, hxo⟩ := HCB.out rfl
            have HXW := Lib.hid hxw
            have HXO := Lib.hid hxo
            have HDX := Lib.hid (fun W hW => debit_run PX x ia mm s (.slice A9 x.accs.length c9) (.slice B9 x.lines.length d9) (.slice C9 x.offers.length e9) W hs2 hf0 (by omega) hxw hxh hW)
            rw [hxe, hxg] at HDX
            unfold valG valS at HDX
            clear hxw hxh hxe hxg hxo
            obtain ⟨s_0, s_1, _⟩ := HA9.out.cs2
            obtain ⟨x_0, x_1, x_2, x_3, x_4, x_5, x_6, _⟩ := HXB9.out.cs7
            go_wp2_with fail
            refine (HDX.out _ HXL9.out).mono ?_
            rintro e v10 ⟨va, vl, vo, rfl, hl, hb⟩
            obtain ⟨A7, c7, B7, d7, C7, e7, rfl, rfl, rfl, _⟩ := hl.form
            have hba := balloc (bref v10) (.cells #[.int .i64 g.number, .slice A7 g.accs.length c7, .slice B7 g.lines.length d7, .slice C7 g.offers.length e7, .int .i64 g.next, .int .i64 g.fees, .int .u64 g.link] 30)
            have HA10 := Lib.hid ((HA9.out.below hb).below hba)
            have HX10 := Lib.hid ((HX9.out.below hb).below hba)
            have HL10 := Lib.hid ((HL9.out.below hb).below hba)
            have HXL10 := Lib.hid ((HXL9.out.below hb).below hba)
            have HXB10 := Lib.hid ((HXB9.out.below hb).below hba)
            have HYL10 := Lib.hid ((HYL9.out.below hb).below hba)
            have HYB10 := Lib.hid ((HYB9.out.below hb).below hba)
            have HB10 := Lib.hid (bstep (bstep HB9.out hb) hba)
            have HZL10 := Lib.hid (hl.below hba)
            have HZB10 := Lib.hid (show HasB v10.heap.size (.cells #[.int .i64 g.number, .slice A7 g.accs.length c7, .slice B7 g.lines.length d7, .slice C7 g.offers.length e7, .int .i64 g.next, .int .i64 g.fees, .int .u64 g.link] 30 (0, 0)) (v10.alloc (.cells #[.int .i64 g.number, .slice A7 g.accs.length c7, .slice B7 g.lines.length d7, .slice C7 g.offers.length e7, .int .i64 g.next, .int .i64 g.fees, .int .u64 g.link] 30)) from heap_alloc_new _ _)
            clear x_0 x_1 x_2 x_3 x_4 x_5 x_6 s_0 s_1 hba hb hl
            go_upto_region 14 with fail
            generalize v10.alloc (.cells #[.int .i64 g.number, .slice A7 g.accs.length c7, .slice B7 g.lines.length d7, .slice C7 g.offers.length e7, .int .i64 g.next, .int .i64 g.fees, .int .u64 g.link] 30) = W10 at *
            obtain ⟨PZ, hPZ⟩ : ∃ P : Nat → Prop, (fun b => W9.heap.size ≤ b) = P := ⟨_, rfl⟩
            rw [hPZ] at HZL10
            clear hPZ
            generalize v10.heap.size = zb at *
            have HLD := Lib.hid (fun W hW hW2 => ledgers_run PZ (fun b => w.heap.size < b) g (.slice A7 g.accs.length c7) (.slice B7 g.lines.length d7) (.slice C7 g.offers.length e7) (.slice A n c) (.slice B m c2) (.slice C mo c3) W HW.out hW hW2)
            have HCX := Lib.hid (fun W (hW : LedAt PX W (.slice A9 x.accs.length c9) (.slice B9 x.lines.length d9) (.slice C9 x.offers.length e9) x) => tcheck_run PX PX x.accs x.lines (.slice B9 x.lines.length d9) (.slice A9 x.accs.length c9) W HXW.out.accs HXW.out.lines hW.l hW.a)
            have HIX := Lib.hid (fun W (hW : LedAt PX W (.slice A9 x.accs.length c9) (.slice B9 x.lines.length d9) (.slice C9 x.offers.length e9) x) => issued_w PX x s (.slice B9 x.lines.length d9) W hs2 HXW.out hW.l)
            have HHX := Lib.hid (fun W (hW : LedAt PX W (.slice A9 x.accs.length c9) (.slice B9 x.lines.length d9) (.slice C9 x.offers.length e9) x) => theld_run PX x ia s (.slice A9 x.accs.length c9) (.slice B9 x.lines.length d9) (.slice C9 x.offers.length e9) W hs2 HXW.out hW)
            unfold valG at HLD HHX
            unfold valS at HIX HHX
            obtain ⟨x_0, x_1, x_2, x_3, x_4, x_5, x_6, _⟩ := HX10.out.cs7
            obtain ⟨z_0, z_1, z_2, z_3, z_4, z_5, z_6, _⟩ := HZB10.out.cs7
            go_wp2_with fail
            refine (HLD.out _ HZL10.out HL10.out).mono ?_
            rintro e W11 ⟨rfl, hb⟩
            have HA11 := Lib.hid (HA10.out.below hb)
            have HX11 := Lib.hid (HX10.out.below hb)
            have HL11 := Lib.hid (HL10.out.below hb)
            have HXL11 := Lib.hid (HXL10.out.below hb)
            have HXB11 := Lib.hid (HXB10.out.below hb)
            have HYL11 := Lib.hid (HYL10.out.below hb)
            have HYB11 := Lib.hid (HYB10.out.below hb)
            have HB11 := Lib.hid (bstep HB10.out hb)
            clear hb x_0 x_1 x_2 x_3 x_4 x_5 x_6 z_0 z_1 z_2 z_3 z_4 z_5 z_6
            obtain ⟨x_0, x_1, x_2, x_3, x_4, x_5, x_6, _⟩ := HXB11.out.cs7
            go_wp2_with fail
            refine (HCX.out _ HXL11.out).mono ?_
            rintro e W12 ⟨rfl, hb⟩
            have HA12 := Lib.hid (HA11.out.below hb)
            have HX12 := Lib.hid (HX11.out.below hb)
            have HL12 := Lib.hid (HL11.out.below hb)
            have HXL12 := Lib.hid (HXL11.out.below hb)
            have HXB12 := Lib.hid (HXB11.out.below hb)
            have HYL12 := Lib.hid (HYL11.out.below hb)
            have HYB12 := Lib.hid (HYB11.out.below hb)
            have HB12 := Lib.hid (bstep HB11.out hb)
            clear hb x_0 x_1 x_2 x_3 x_4 x_5 x_6
            go_upto_region 16 with fail
            have hS : Cs [(⟨xb, 0, none⟩, .int .i64 x.number), (⟨xb, 1, none⟩, .slice A9 x.accs.length c9), (⟨xb, 2, none⟩, .slice B9 x.lines.length d9), (⟨xb, 3, none⟩, .slice C9 x.offers.length e9), (⟨xb, 4, none⟩, .int .i64 x.next), (⟨xb, 5, none⟩, .int .i64 x.fees), (⟨xb, 6, none⟩, .int .u64 x.link), (⟨gb, 0, none⟩, .int .i64 g.number), (⟨gb, 1, none⟩, .slice A n c), (⟨gb, 2, none⟩, .slice B m c2), (⟨gb, 3, none⟩, .slice C mo c3), (⟨gb, 4, none⟩, .int .i64 g.next), (⟨gb, 5, none⟩, .int .i64 g.fees), (⟨gb, 6, none⟩, .int .u64 g.link), (⟨ab, 0, none⟩, .string (codeOf s)), (⟨ab, 1, none⟩, .int .i64 (issOf s))] W12.drew ∧ HasB ab (.cells #[.string (codeOf s), .int .i64 (issOf s)] 49 (0, 0)) W12.drew ∧ HasB gb (.cells #[.int .i64 g.number, .slice A n c, .slice B m c2, .slice C mo c3, .int .i64 g.next, .int .i64 g.fees, .int .u64 g.link] 30 (0, 0)) W12.drew ∧ LedAt (fun b => w.heap.size < b) W12.drew (.slice A n c) (.slice B m c2) (.slice C mo c3) g ∧ LedAt PX W12.drew (.slice A9 x.accs.length c9) (.slice B9 x.lines.length d9) (.slice C9 x.offers.length e9) x ∧ HasB xb (.cells #[.int .i64 x.number, .slice A9 x.accs.length c9, .slice B9 x.lines.length d9, .slice C9 x.offers.length e9, .int .i64 x.next, .int .i64 x.fees, .int .u64 x.link] 30 (0, 0)) W12.drew ∧ LedAt PY W12.drew (.slice A8 y.accs.length c8) (.slice B8 y.lines.length d8) (.slice C8 y.offers.length e8) y ∧ HasB yb (.cells #[.int .i64 y.number, .slice A8 y.accs.length c8, .slice B8 y.lines.length d8, .slice C8 y.offers.length e8, .int .i64 y.next, .int .i64 y.fees, .int .u64 y.link] 30 (0, 0)) W12.drew ∧ Below w.heap.size w W12.drew := ⟨Cs.app (Cs.app HXB12.out.cs7.drew HX12.out.cs7.drew) HA12.out.cs2.drew, HA12.out.below (bdrew (bref _)), HX12.out.below (bdrew (bref _)), HL12.out.below (bdrew (bref _)), HXL12.out.below (bdrew (bref _)), HXB12.out.below (bdrew (bref _)), HYL12.out.below (bdrew (bref _)), HYB12.out.below (bdrew (bref _)), bdrew HB12.out⟩
            rcases (show ow = true ∨ ow = false by cases ow <;> simp) with h1 | h1
            · subst h1
              obtain ⟨hi1, hi2⟩ := HXO.out rfl
              rw [hi1] at HIX
              rw [hi2] at HHX
              have htb := HTB.out
              have w1 : IntKind.i64.wrap (T + mm) = T + mm := IntWalk.i64_in _ (by omega)
              have w2 : IntKind.i64.wrap (H + mm) = H + mm := IntWalk.i64_in _ (by have := HHB.out; omega)
              clear hi1 hi2
              refine wp_region_held_drew (S := (fun W => Cs [(⟨xb, 0, none⟩, .int .i64 x.number), (⟨xb, 1, none⟩, .slice A9 x.accs.length c9), (⟨xb, 2, none⟩, .slice B9 x.lines.length d9), (⟨xb, 3, none⟩, .slice C9 x.offers.length e9), (⟨xb, 4, none⟩, .int .i64 x.next), (⟨xb, 5, none⟩, .int .i64 x.fees), (⟨xb, 6, none⟩, .int .u64 x.link), (⟨gb, 0, none⟩, .int .i64 g.number), (⟨gb, 1, none⟩, .slice A n c), (⟨gb, 2, none⟩, .slice B m c2), (⟨gb, 3, none⟩, .slice C mo c3), (⟨gb, 4, none⟩, .int .i64 g.next), (⟨gb, 5, none⟩, .int .i64 g.fees), (⟨gb, 6, none⟩, .int .u64 g.link), (⟨ab, 0, none⟩, .string (codeOf s)), (⟨ab, 1, none⟩, .int .i64 (issOf s))] W ∧ HasB ab (.cells #[.string (codeOf s), .int .i64 (issOf s)] 49 (0, 0)) W ∧ HasB gb (.cells #[.int .i64 g.number, .slice A n c, .slice B m c2, .slice C mo c3, .int .i64 g.next, .int .i64 g.fees, .int .u64 g.link] 30 (0, 0)) W ∧ LedAt (fun b => w.heap.size < b) W (.slice A n c) (.slice B m c2) (.slice C mo c3) g ∧ LedAt PX W (.slice A9 x.accs.length c9) (.slice B9 x.lines.length d9) (.slice C9 x.offers.length e9) x ∧ HasB xb (.cells #[.int .i64 x.number, .slice A9 x.accs.length c9, .slice B9 x.lines.length d9, .slice C9 x.offers.length e9, .int .i64 x.next, .int .i64 x.fees, .int .u64 x.link] 30 (0, 0)) W ∧ LedAt PY W (.slice A8 y.accs.length c8) (.slice B8 y.lines.length d8) (.slice C8 y.offers.length e8) y ∧ HasB yb (.cells #[.int .i64 y.number, .slice A8 y.accs.length c8, .slice B8 y.lines.length d8, .slice C8 y.offers.length e8, .int .i64 y.next, .int .i64 y.fees, .int .u64 y.link] 30 (0, 0)) W ∧ Below w.heap.size w W)) (by kernel_rfl) hS (fun hSK => ?_)
              clear hS
              refine take_d (some 127) (i := 0) (v := ?_) rfl rfl (by kernel_rfl) (by kernel_rfl) (by kernel_rfl) (fun _ _ _ h => h) (Or.inl ⟨by rfl, ?_⟩) (by assumption) ?_
              rotate_left
              · intro w hSw; (dsimp only [Cs] at hSw); go_simp; (try with_reducible rfl)
              try simp only [Act.put, List.setIfInBounds_toArray, List.set_cons_zero, List.set_cons_succ]
              refine take_d (some 128) (i := 1) (v := ?_) rfl rfl (by kernel_rfl) (by kernel_rfl) (by kernel_rfl) (fun _ _ _ h => h) (Or.inl ⟨by rfl, ?_⟩) (by assumption) ?_
              rotate_left
              · intro w hSw; (dsimp only [Cs] at hSw); go_simp; (try with_reducible rfl)
              try simp only [Act.put, List.setIfInBounds_toArray, List.set_cons_zero, List.set_cons_succ]
              refine take_d (some 129) (i := 2) (v := ?_) rfl rfl (by kernel_rfl) (by kernel_rfl) (by kernel_rfl) (fun _ _ _ h => h) (Or.inl ⟨by rfl, ?_⟩) (by assumption) ?_
              rotate_left
              · intro w hSw; (dsimp only [Cs] at hSw); go_simp; (try with_reducible rfl)
              try simp only [Act.put, List.setIfInBounds_toArray, List.set_cons_zero, List.set_cons_succ]
              refine take_d (some 130) (i := 3) (v := ?_) rfl rfl (by kernel_rfl) (by kernel_rfl) (by kernel_rfl) (fun _ _ _ h => h) (Or.inl ⟨by rfl, ?_⟩) (by assumption) ?_
              rotate_left
              · intro w hSw; (dsimp only [Cs] at hSw); go_simp; (try with_reducible rfl)
              try simp only [Act.put, List.setIfInBounds_toArray, List.set_cons_zero, List.set_cons_succ]
              refine take_d (some 131) (i := 4) (v := ?_) rfl rfl (by kernel_rfl) (by kernel_rfl) (by kernel_rfl) (fun _ _ _ h => h) (Or.inl ⟨by rfl, ?_⟩) (by assumption) ?_
              rotate_left
              · intro w hSw; (dsimp only [Cs] at hSw); go_simp; (try with_reducible rfl)
              try simp only [Act.put, List.setIfInBounds_toArray, List.set_cons_zero, List.set_cons_succ]
              refine take_d (some 133) (i := 6) (v := ?_) rfl rfl (by kernel_rfl) (by kernel_rfl) (by kernel_rfl) (fun _ _ _ h => h) (Or.inl ⟨by rfl, ?_⟩) (by assumption) ?_
              rotate_left
              · intro w hSw; (dsimp only [Cs] at hSw); go_simp; (try with_reducible rfl)
              try simp only [Act.put, List.setIfInBounds_toArray, List.set_cons_zero, List.set_cons_succ]
              refine take_d (some 134) (i := 7) (v := ?_) rfl rfl (by kernel_rfl) (by kernel_rfl) (by kernel_rfl) (fun _ _ _ h => h) (Or.inl ⟨by rfl, ?_⟩) (by assumption) ?_
              rotate_left
              · intro w hSw; (dsimp only [Cs] at hSw); go_simp; (try with_reducible rfl)
              try simp only [Act.put, List.setIfInBounds_toArray, List.set_cons_zero, List.set_cons_succ]
              refine take_d (some 135) (i := 8) (v := ?_) rfl rfl (by kernel_rfl) (by kernel_rfl) (by kernel_rfl) (fun _ _ _ h => h) (Or.inl ⟨by rfl, ?_⟩) (by assumption) ?_
              rotate_left
              · intro w hSw; (dsimp only [Cs] at hSw); go_simp; (try with_reducible rfl)
              try simp only [Act.put, List.setIfInBounds_toArray, List.set_cons_zero, List.set_cons_succ]
              refine take_d (some 137) (i := 10) (v := ?_) rfl rfl (by kernel_rfl) (by kernel_rfl) (by kernel_rfl) (fun _ _ _ h => h) (Or.inl ⟨by rfl, ?_⟩) (by assumption) ?_
              rotate_left
              · intro w hSw; (dsimp only [Cs] at hSw); go_simp; (try with_reducible rfl)
              try simp only [Act.put, List.setIfInBounds_toArray, List.set_cons_zero, List.set_cons_succ]
              refine wpAnyH_ready (rs := [5]) (by kernel_rfl) (by simp) ?_
              refine AllReadyH.cons rfl (fun K hK => ?_) AllReadyH.nil
              go_simp
              refine (HIX.out _ hSK.2.2.2.2.1).mono ?_
              rintro e wK ⟨rfl, hbK⟩
              go_wp2_with fail
              refine hK.out _ _ ?_ (fun hHeld => ?_)
              · exact ⟨Cs.below hSK.1 hbK, hSK.2.1.below hbK, hSK.2.2.1.below hbK, hSK.2.2.2.1.below hbK, hSK.2.2.2.2.1.below hbK, hSK.2.2.2.2.2.1.below hbK, hSK.2.2.2.2.2.2.1.below hbK, hSK.2.2.2.2.2.2.2.1.below hbK, bstep hSK.2.2.2.2.2.2.2.2 hbK⟩
              clear hSK
              have hSK := hHeld
              clear hHeld
              clear hK K
              try simp only [Act.put, List.setIfInBounds_toArray, List.set_cons_zero, List.set_cons_succ]
              refine wpAnyH_ready (rs := [9]) (by kernel_rfl) (by simp) ?_
              refine AllReadyH.cons rfl (fun K hK => ?_) AllReadyH.nil
              go_simp
              refine (HISG.out _ hSK.2.2.2.1).mono ?_
              rintro e wK ⟨rfl, hbK⟩
              go_wp2_with fail
              refine hK.out _ _ ?_ (fun hHeld => ?_)
              · exact ⟨Cs.below hSK.1 hbK, hSK.2.1.below hbK, hSK.2.2.1.below hbK, hSK.2.2.2.1.below hbK, hSK.2.2.2.2.1.below hbK, hSK.2.2.2.2.2.1.below hbK, hSK.2.2.2.2.2.2.1.below hbK, hSK.2.2.2.2.2.2.2.1.below hbK, bstep hSK.2.2.2.2.2.2.2.2 hbK⟩
              clear hSK
              have hSK := hHeld
              clear hHeld
              clear hK K
              try simp only [Act.put, List.setIfInBounds_toArray, List.set_cons_zero, List.set_cons_succ]
              refine take_d (some 138) (i := 11) (v := ?_) rfl rfl (by kernel_rfl) (by kernel_rfl) (by kernel_rfl) (fun _ _ _ h => h) (Or.inl ⟨by rfl, ?_⟩) (by assumption) ?_
              rotate_left
              · intro w hSw; (dsimp only [Cs] at hSw); go_simp; (try with_reducible rfl)
              try simp only [Act.put, List.setIfInBounds_toArray, List.set_cons_zero, List.set_cons_succ]
              refine take_d (some 139) (i := 12) (v := ?_) rfl rfl (by kernel_rfl) (by kernel_rfl) (by kernel_rfl) (fun _ _ _ h => h) (Or.inl ⟨by rfl, ?_⟩) (by assumption) ?_
              rotate_left
              · intro w hSw; (dsimp only [Cs] at hSw); go_simp; (try with_reducible rfl)
              try simp only [Act.put, List.setIfInBounds_toArray, List.set_cons_zero, List.set_cons_succ]
              refine take_d (some 140) (i := 13) (v := ?_) rfl rfl (by kernel_rfl) (by kernel_rfl) (by kernel_rfl) (fun _ _ _ h => h) (Or.inl ⟨by rfl, ?_⟩) (by assumption) ?_
              rotate_left
              · intro w hSw; (dsimp only [Cs] at hSw); go_simp; (try with_reducible rfl)
              try simp only [Act.put, List.setIfInBounds_toArray, List.set_cons_zero, List.set_cons_succ]
              refine take_d (some 141) (i := 14) (v := ?_) rfl rfl (by kernel_rfl) (by kernel_rfl) (by kernel_rfl) (fun _ _ _ h => h) (Or.inl ⟨by rfl, ?_⟩) (by assumption) ?_
              rotate_left
              · intro w hSw; (dsimp only [Cs] at hSw); go_simp; (try with_reducible rfl)
              try simp only [Act.put, List.setIfInBounds_toArray, List.set_cons_zero, List.set_cons_succ]
              refine take_d (some 142) (i := 15) (v := ?_) rfl rfl (by kernel_rfl) (by kernel_rfl) (by kernel_rfl) (fun _ _ _ h => h) (Or.inl ⟨by rfl, ?_⟩) (by assumption) ?_
              rotate_left
              · intro w hSw; (dsimp only [Cs] at hSw); go_simp; (try with_reducible rfl)
              try simp only [Act.put, List.setIfInBounds_toArray, List.set_cons_zero, List.set_cons_succ]
              refine take_d (some 143) (i := 16) (v := ?_) rfl rfl (by kernel_rfl) (by kernel_rfl) (by kernel_rfl) (fun _ _ _ h => h) (Or.inl ⟨by rfl, ?_⟩) (by assumption) ?_
              rotate_left
              · intro w hSw; (dsimp only [Cs] at hSw); go_simp; (try with_reducible rfl)
              try simp only [Act.put, List.setIfInBounds_toArray, List.set_cons_zero, List.set_cons_succ]
              refine take_d (some 144) (i := 17) (v := ?_) rfl rfl (by kernel_rfl) (by kernel_rfl) (by kernel_rfl) (fun _ _ _ h => h) (Or.inl ⟨by rfl, ?_⟩) (by assumption) ?_
              rotate_left
              · intro w hSw; (dsimp only [Cs] at hSw); go_simp; (try with_reducible rfl)
              try simp only [Act.put, List.setIfInBounds_toArray, List.set_cons_zero, List.set_cons_succ]
              refine take_d (some 145) (i := 18) (v := ?_) rfl rfl (by kernel_rfl) (by kernel_rfl) (by kernel_rfl) (fun _ _ _ h => h) (Or.inl ⟨by rfl, ?_⟩) (by assumption) ?_
              rotate_left
              · intro w hSw; (dsimp only [Cs] at hSw); go_simp; (try with_reducible rfl)
              try simp only [Act.put, List.setIfInBounds_toArray, List.set_cons_zero, List.set_cons_succ]
              refine take_d (some 146) (i := 19) (v := ?_) rfl rfl (by kernel_rfl) (by kernel_rfl) (by kernel_rfl) (fun _ _ _ h => h) (Or.inl ⟨by rfl, ?_⟩) (by assumption) ?_
              rotate_left
              · intro w hSw; (dsimp only [Cs] at hSw); go_simp; (try with_reducible rfl)
              try simp only [Act.put, List.setIfInBounds_toArray, List.set_cons_zero, List.set_cons_succ]
              refine take_d (some 148) (i := 21) (v := ?_) rfl rfl (by kernel_rfl) (by kernel_rfl) (by kernel_rfl) (fun _ _ _ h => h) (Or.inl ⟨by rfl, ?_⟩) (by assumption) ?_
              rotate_left
              · intro w hSw; (dsimp only [Cs] at hSw); go_simp; (try with_reducible rfl)
              try simp only [Act.put, List.setIfInBounds_toArray, List.set_cons_zero, List.set_cons_succ]
              refine take_d (some 149) (i := 22) (v := ?_) rfl rfl (by kernel_rfl) (by kernel_rfl) (by kernel_rfl) (fun _ _ _ h => h) (Or.inl ⟨by rfl, ?_⟩) (by assumption) ?_
              rotate_left
              · intro w hSw; (dsimp only [Cs] at hSw); go_simp; (try with_reducible rfl)
              try simp only [Act.put, List.setIfInBounds_toArray, List.set_cons_zero, List.set_cons_succ]
              refine take_d (some 150) (i := 23) (v := ?_) rfl rfl (by kernel_rfl) (by kernel_rfl) (by kernel_rfl) (fun _ _ _ h => h) (Or.inl ⟨by rfl, ?_⟩) (by assumption) ?_
              rotate_left
              · intro w hSw; (dsimp only [Cs] at hSw); go_simp; (try with_reducible rfl)
              try simp only [Act.put, List.setIfInBounds_toArray, List.set_cons_zero, List.set_cons_succ]
              refine take_d (some 152) (i := 25) (v := ?_) rfl rfl (by kernel_rfl) (by kernel_rfl) (by kernel_rfl) (fun _ _ _ h => h) (Or.inl ⟨by rfl, ?_⟩) (by assumption) ?_
              rotate_left
              · intro w hSw; (dsimp only [Cs] at hSw); go_simp; (try with_reducible rfl)
              try simp only [Act.put, List.setIfInBounds_toArray, List.set_cons_zero, List.set_cons_succ]
              refine wpAnyH_ready (rs := [20]) (by kernel_rfl) (by simp) ?_
              refine AllReadyH.cons rfl (fun K hK => ?_) AllReadyH.nil
              go_simp
              refine (HHX.out _ hSK.2.2.2.2.1).mono ?_
              rintro e wK ⟨rfl, hbK⟩
              go_wp2_with fail
              refine hK.out _ _ ?_ (fun hHeld => ?_)
              · exact ⟨Cs.below hSK.1 hbK, hSK.2.1.below hbK, hSK.2.2.1.below hbK, hSK.2.2.2.1.below hbK, hSK.2.2.2.2.1.below hbK, hSK.2.2.2.2.2.1.below hbK, hSK.2.2.2.2.2.2.1.below hbK, hSK.2.2.2.2.2.2.2.1.below hbK, bstep hSK.2.2.2.2.2.2.2.2 hbK⟩
              clear hSK
              have hSK := hHeld
              clear hHeld
              clear hK K
              try simp only [Act.put, List.setIfInBounds_toArray, List.set_cons_zero, List.set_cons_succ]
              refine wpAnyH_ready (rs := [24]) (by kernel_rfl) (by simp) ?_
              refine AllReadyH.cons rfl (fun K hK => ?_) AllReadyH.nil
              go_simp
              refine (HHG.out _ hSK.2.2.2.1).mono ?_
              rintro e wK ⟨rfl, hbK⟩
              go_wp2_with fail
              refine hK.out _ _ ?_ (fun hHeld => ?_)
              · exact ⟨Cs.below hSK.1 hbK, hSK.2.1.below hbK, hSK.2.2.1.below hbK, hSK.2.2.2.1.below hbK, hSK.2.2.2.2.1.below hbK, hSK.2.2.2.2.2.1.below hbK, hSK.2.2.2.2.2.2.1.below hbK, hSK.2.2.2.2.2.2.2.1.below hbK, bstep hSK.2.2.2.2.2.2.2.2 hbK⟩
              clear hSK
              have hSK := hHeld
              clear hHeld
              clear hK K
              try simp only [Act.put, List.setIfInBounds_toArray, List.set_cons_zero, List.set_cons_succ]
              refine take_d (some 153) (i := 26) (v := ?_) rfl rfl (by kernel_rfl) (by kernel_rfl) (by kernel_rfl) (fun _ _ _ h => h) (Or.inl ⟨by rfl, ?_⟩) (by assumption) ?_
              rotate_left
              · intro w hSw; (dsimp only [Cs] at hSw); go_simp; (try with_reducible rfl)
              try simp only [Act.put, List.setIfInBounds_toArray, List.set_cons_zero, List.set_cons_succ]
              refine take_d (some 154) (i := 27) (v := ?_) rfl rfl (by kernel_rfl) (by kernel_rfl) (by kernel_rfl) (fun _ _ _ h => h) (Or.inl ⟨by rfl, ?_⟩) (by assumption) ?_
              rotate_left
              · intro w hSw; (dsimp only [Cs] at hSw); go_simp; (try with_reducible rfl)
              try simp only [Act.put, List.setIfInBounds_toArray, List.set_cons_zero, List.set_cons_succ]
              refine take_d (some 155) (i := 28) (v := ?_) rfl rfl (by kernel_rfl) (by kernel_rfl) (by kernel_rfl) (fun _ _ _ h => h) (Or.inl ⟨by rfl, ?_⟩) (by assumption) ?_
              rotate_left
              · intro w hSw; (dsimp only [Cs] at hSw); go_simp; (try with_reducible rfl)
              try simp only [Act.put, List.setIfInBounds_toArray, List.set_cons_zero, List.set_cons_succ]
              refine take_d (some 156) (i := 29) (v := ?_) rfl rfl (by kernel_rfl) (by kernel_rfl) (by kernel_rfl) (fun _ _ _ h => h) (Or.inl ⟨by rfl, ?_⟩) (by assumption) ?_
              rotate_left
              · intro w hSw; (dsimp only [Cs] at hSw); go_simp; (try with_reducible rfl)
              try simp only [Act.put, List.setIfInBounds_toArray, List.set_cons_zero, List.set_cons_succ]
              refine wpAnyH_done (by kernel_rfl) ?_ _
              have HA13 := Lib.hid (hSK.2.1)
              have HX13 := Lib.hid (hSK.2.2.1)
              have HL13 := Lib.hid (hSK.2.2.2.1)
              have HXL13 := Lib.hid (hSK.2.2.2.2.1)
              have HXB13 := Lib.hid (hSK.2.2.2.2.2.1)
              have HYL13 := Lib.hid (hSK.2.2.2.2.2.2.1)
              have HYB13 := Lib.hid (hSK.2.2.2.2.2.2.2.1)
              have HB13 := Lib.hid (hSK.2.2.2.2.2.2.2.2)
              clear hSK
              go_wp2_with fail
              go_meet
              exact ⟨HA13, HX13, HL13, HXL13, HXB13, HYL13, HYB13, HB13⟩
            · subst h1
              refine wp_region_held_drew (S := (fun W => Cs [(⟨xb, 0, none⟩, .int .i64 x.number), (⟨xb, 1, none⟩, .slice A9 x.accs.length c9), (⟨xb, 2, none⟩, .slice B9 x.lines.length d9), (⟨xb, 3, none⟩, .slice C9 x.offers.length e9), (⟨xb, 4, none⟩, .int .i64 x.next), (⟨xb, 5, none⟩, .int .i64 x.fees), (⟨xb, 6, none⟩, .int .u64 x.link), (⟨gb, 0, none⟩, .int .i64 g.number), (⟨gb, 1, none⟩, .slice A n c), (⟨gb, 2, none⟩, .slice B m c2), (⟨gb, 3, none⟩, .slice C mo c3), (⟨gb, 4, none⟩, .int .i64 g.next), (⟨gb, 5, none⟩, .int .i64 g.fees), (⟨gb, 6, none⟩, .int .u64 g.link), (⟨ab, 0, none⟩, .string (codeOf s)), (⟨ab, 1, none⟩, .int .i64 (issOf s))] W ∧ HasB ab (.cells #[.string (codeOf s), .int .i64 (issOf s)] 49 (0, 0)) W ∧ HasB gb (.cells #[.int .i64 g.number, .slice A n c, .slice B m c2, .slice C mo c3, .int .i64 g.next, .int .i64 g.fees, .int .u64 g.link] 30 (0, 0)) W ∧ LedAt (fun b => w.heap.size < b) W (.slice A n c) (.slice B m c2) (.slice C mo c3) g ∧ LedAt PX W (.slice A9 x.accs.length c9) (.slice B9 x.lines.length d9) (.slice C9 x.offers.length e9) x ∧ HasB xb (.cells #[.int .i64 x.number, .slice A9 x.accs.length c9, .slice B9 x.lines.length d9, .slice C9 x.offers.length e9, .int .i64 x.next, .int .i64 x.fees, .int .u64 x.link] 30 (0, 0)) W ∧ LedAt PY W (.slice A8 y.accs.length c8) (.slice B8 y.lines.length d8) (.slice C8 y.offers.length e8) y ∧ HasB yb (.cells #[.int .i64 y.number, .slice A8 y.accs.length c8, .slice B8 y.lines.length d8, .slice C8 y.offers.length e8, .int .i64 y.next, .int .i64 y.fees, .int .u64 y.link] 30 (0, 0)) W ∧ Below w.heap.size w W)) (by kernel_rfl) hS (fun hSK => ?_)
              clear hS
              refine take_d (some 127) (i := 0) (v := ?_) rfl rfl (by kernel_rfl) (by kernel_rfl) (by kernel_rfl) (fun _ _ _ h => h) (Or.inl ⟨by rfl, ?_⟩) (by assumption) ?_
              rotate_left
              · intro w hSw; (dsimp only [Cs] at hSw); go_simp; (try with_reducible rfl)
              try simp only [Act.put, List.setIfInBounds_toArray, List.set_cons_zero, List.set_cons_succ]
              refine take_d (some 128) (i := 1) (v := ?_) rfl rfl (by kernel_rfl) (by kernel_rfl) (by kernel_rfl) (fun _ _ _ h => h) (Or.inl ⟨by rfl, ?_⟩) (by assumption) ?_
              rotate_left
              · intro w hSw; (dsimp only [Cs] at hSw); go_simp; (try with_reducible rfl)
              try simp only [Act.put, List.setIfInBounds_toArray, List.set_cons_zero, List.set_cons_succ]
              refine take_d (some 129) (i := 2) (v := undef) rfl rfl (by kernel_rfl) (by kernel_rfl) (by kernel_rfl) (fun _ _ _ h => h) (Or.inr ⟨by rfl, rfl⟩) (by assumption) ?_
              try simp only [Act.put, List.setIfInBounds_toArray, List.set_cons_zero, List.set_cons_succ]
              refine take_d (some 130) (i := 3) (v := undef) rfl rfl (by kernel_rfl) (by kernel_rfl) (by kernel_rfl) (fun _ _ _ h => h) (Or.inr ⟨by rfl, rfl⟩) (by assumption) ?_
              try simp only [Act.put, List.setIfInBounds_toArray, List.set_cons_zero, List.set_cons_succ]
              refine take_d (some 131) (i := 4) (v := undef) rfl rfl (by kernel_rfl) (by kernel_rfl) (by kernel_rfl) (fun _ _ _ h => h) (Or.inr ⟨by rfl, rfl⟩) (by assumption) ?_
              try simp only [Act.put, List.setIfInBounds_toArray, List.set_cons_zero, List.set_cons_succ]
              refine take_d (some 132) (i := 5) (v := undef) rfl rfl (by kernel_rfl) (by kernel_rfl) (by kernel_rfl) (fun _ _ _ h => h) (Or.inr ⟨by rfl, rfl⟩) (by assumption) ?_
              try simp only [Act.put, List.setIfInBounds_toArray, List.set_cons_zero, List.set_cons_succ]
              refine take_d (some 133) (i := 6) (v := undef) rfl rfl (by kernel_rfl) (by kernel_rfl) (by kernel_rfl) (fun _ _ _ h => h) (Or.inr ⟨by rfl, rfl⟩) (by assumption) ?_
              try simp only [Act.put, List.setIfInBounds_toArray, List.set_cons_zero, List.set_cons_succ]
              refine take_d (some 134) (i := 7) (v := undef) rfl rfl (by kernel_rfl) (by kernel_rfl) (by kernel_rfl) (fun _ _ _ h => h) (Or.inr ⟨by rfl, rfl⟩) (by assumption) ?_
              try simp only [Act.put, List.setIfInBounds_toArray, List.set_cons_zero, List.set_cons_succ]
              refine take_d (some 135) (i := 8) (v := undef) rfl rfl (by kernel_rfl) (by kernel_rfl) (by kernel_rfl) (fun _ _ _ h => h) (Or.inr ⟨by rfl, rfl⟩) (by assumption) ?_
              try simp only [Act.put, List.setIfInBounds_toArray, List.set_cons_zero, List.set_cons_succ]
              refine take_d (some 136) (i := 9) (v := undef) rfl rfl (by kernel_rfl) (by kernel_rfl) (by kernel_rfl) (fun _ _ _ h => h) (Or.inr ⟨by rfl, rfl⟩) (by assumption) ?_
              try simp only [Act.put, List.setIfInBounds_toArray, List.set_cons_zero, List.set_cons_succ]
              refine take_d (some 137) (i := 10) (v := undef) rfl rfl (by kernel_rfl) (by kernel_rfl) (by kernel_rfl) (fun _ _ _ h => h) (Or.inr ⟨by rfl, rfl⟩) (by assumption) ?_
              try simp only [Act.put, List.setIfInBounds_toArray, List.set_cons_zero, List.set_cons_succ]
              refine take_d (some 138) (i := 11) (v := undef) rfl rfl (by kernel_rfl) (by kernel_rfl) (by kernel_rfl) (fun _ _ _ h => h) (Or.inr ⟨by rfl, rfl⟩) (by assumption) ?_
              try simp only [Act.put, List.setIfInBounds_toArray, List.set_cons_zero, List.set_cons_succ]
              refine take_d (some 139) (i := 12) (v := undef) rfl rfl (by kernel_rfl) (by kernel_rfl) (by kernel_rfl) (fun _ _ _ h => h) (Or.inr ⟨by rfl, rfl⟩) (by assumption) ?_
              try simp only [Act.put, List.setIfInBounds_toArray, List.set_cons_zero, List.set_cons_succ]
              refine take_d (some 140) (i := 13) (v := ?_) rfl rfl (by kernel_rfl) (by kernel_rfl) (by kernel_rfl) (fun _ _ _ h => h) (Or.inl ⟨by rfl, ?_⟩) (by assumption) ?_
              rotate_left
              · intro w hSw; (dsimp only [Cs] at hSw); go_simp; (try with_reducible rfl)
              try simp only [Act.put, List.setIfInBounds_toArray, List.set_cons_zero, List.set_cons_succ]
              refine take_d (some 141) (i := 14) (v := ?_) rfl rfl (by kernel_rfl) (by kernel_rfl) (by kernel_rfl) (fun _ _ _ h => h) (Or.inl ⟨by rfl, ?_⟩) (by assumption) ?_
              rotate_left
              · intro w hSw; (dsimp only [Cs] at hSw); go_simp; (try with_reducible rfl)
              try simp only [Act.put, List.setIfInBounds_toArray, List.set_cons_zero, List.set_cons_succ]
              refine take_d (some 142) (i := 15) (v := ?_) rfl rfl (by kernel_rfl) (by kernel_rfl) (by kernel_rfl) (fun _ _ _ h => h) (Or.inl ⟨by rfl, ?_⟩) (by assumption) ?_
              rotate_left
              · intro w hSw; (dsimp only [Cs] at hSw); go_simp; (try with_reducible rfl)
              try simp only [Act.put, List.setIfInBounds_toArray, List.set_cons_zero, List.set_cons_succ]
              refine take_d (some 143) (i := 16) (v := ?_) rfl rfl (by kernel_rfl) (by kernel_rfl) (by kernel_rfl) (fun _ _ _ h => h) (Or.inl ⟨by rfl, ?_⟩) (by assumption) ?_
              rotate_left
              · intro w hSw; (dsimp only [Cs] at hSw); go_simp; (try with_reducible rfl)
              try simp only [Act.put, List.setIfInBounds_toArray, List.set_cons_zero, List.set_cons_succ]
              refine take_d (some 144) (i := 17) (v := undef) rfl rfl (by kernel_rfl) (by kernel_rfl) (by kernel_rfl) (fun _ _ _ h => h) (Or.inr ⟨by rfl, rfl⟩) (by assumption) ?_
              try simp only [Act.put, List.setIfInBounds_toArray, List.set_cons_zero, List.set_cons_succ]
              refine take_d (some 145) (i := 18) (v := undef) rfl rfl (by kernel_rfl) (by kernel_rfl) (by kernel_rfl) (fun _ _ _ h => h) (Or.inr ⟨by rfl, rfl⟩) (by assumption) ?_
              try simp only [Act.put, List.setIfInBounds_toArray, List.set_cons_zero, List.set_cons_succ]
              refine take_d (some 146) (i := 19) (v := undef) rfl rfl (by kernel_rfl) (by kernel_rfl) (by kernel_rfl) (fun _ _ _ h => h) (Or.inr ⟨by rfl, rfl⟩) (by assumption) ?_
              try simp only [Act.put, List.setIfInBounds_toArray, List.set_cons_zero, List.set_cons_succ]
              refine take_d (some 147) (i := 20) (v := undef) rfl rfl (by kernel_rfl) (by kernel_rfl) (by kernel_rfl) (fun _ _ _ h => h) (Or.inr ⟨by rfl, rfl⟩) (by assumption) ?_
              try simp only [Act.put, List.setIfInBounds_toArray, List.set_cons_zero, List.set_cons_succ]
              refine take_d (some 148) (i := 21) (v := undef) rfl rfl (by kernel_rfl) (by kernel_rfl) (by kernel_rfl) (fun _ _ _ h => h) (Or.inr ⟨by rfl, rfl⟩) (by assumption) ?_
              try simp only [Act.put, List.setIfInBounds_toArray, List.set_cons_zero, List.set_cons_succ]
              refine take_d (some 149) (i := 22) (v := undef) rfl rfl (by kernel_rfl) (by kernel_rfl) (by kernel_rfl) (fun _ _ _ h => h) (Or.inr ⟨by rfl, rfl⟩) (by assumption) ?_
              try simp only [Act.put, List.setIfInBounds_toArray, List.set_cons_zero, List.set_cons_succ]
              refine take_d (some 150) (i := 23) (v := undef) rfl rfl (by kernel_rfl) (by kernel_rfl) (by kernel_rfl) (fun _ _ _ h => h) (Or.inr ⟨by rfl, rfl⟩) (by assumption) ?_
              try simp only [Act.put, List.setIfInBounds_toArray, List.set_cons_zero, List.set_cons_succ]
              refine take_d (some 151) (i := 24) (v := undef) rfl rfl (by kernel_rfl) (by kernel_rfl) (by kernel_rfl) (fun _ _ _ h => h) (Or.inr ⟨by rfl, rfl⟩) (by assumption) ?_
              try simp only [Act.put, List.setIfInBounds_toArray, List.set_cons_zero, List.set_cons_succ]
              refine take_d (some 152) (i := 25) (v := undef) rfl rfl (by kernel_rfl) (by kernel_rfl) (by kernel_rfl) (fun _ _ _ h => h) (Or.inr ⟨by rfl, rfl⟩) (by assumption) ?_
              try simp only [Act.put, List.setIfInBounds_toArray, List.set_cons_zero, List.set_cons_succ]
              refine take_d (some 153) (i := 26) (v := undef) rfl rfl (by kernel_rfl) (by kernel_rfl) (by kernel_rfl) (fun _ _ _ h => h) (Or.inr ⟨by rfl, rfl⟩) (by assumption) ?_
              try simp only [Act.put, List.setIfInBounds_toArray, List.set_cons_zero, List.set_cons_succ]
              refine take_d (some 154) (i := 27) (v := undef) rfl rfl (by kernel_rfl) (by kernel_rfl) (by kernel_rfl) (fun _ _ _ h => h) (Or.inr ⟨by rfl, rfl⟩) (by assumption) ?_
              try simp only [Act.put, List.setIfInBounds_toArray, List.set_cons_zero, List.set_cons_succ]
              refine take_d (some 155) (i := 28) (v := ?_) rfl rfl (by kernel_rfl) (by kernel_rfl) (by kernel_rfl) (fun _ _ _ h => h) (Or.inl ⟨by rfl, ?_⟩) (by assumption) ?_
              rotate_left
              · intro w hSw; (dsimp only [Cs] at hSw); go_simp; (try with_reducible rfl)
              try simp only [Act.put, List.setIfInBounds_toArray, List.set_cons_zero, List.set_cons_succ]
              refine take_d (some 156) (i := 29) (v := ?_) rfl rfl (by kernel_rfl) (by kernel_rfl) (by kernel_rfl) (fun _ _ _ h => h) (Or.inl ⟨by rfl, ?_⟩) (by assumption) ?_
              rotate_left
              · intro w hSw; (dsimp only [Cs] at hSw); go_simp; (try with_reducible rfl)
              try simp only [Act.put, List.setIfInBounds_toArray, List.set_cons_zero, List.set_cons_succ]
              refine wpAnyH_done (by kernel_rfl) ?_ _
              have HA13 := Lib.hid (hSK.2.1)
              have HX13 := Lib.hid (hSK.2.2.1)
              have HL13 := Lib.hid (hSK.2.2.2.1)
              have HXL13 := Lib.hid (hSK.2.2.2.2.1)
              have HXB13 := Lib.hid (hSK.2.2.2.2.2.1)
              have HYL13 := Lib.hid (hSK.2.2.2.2.2.2.1)
              have HYB13 := Lib.hid (hSK.2.2.2.2.2.2.2.1)
              have HB13 := Lib.hid (hSK.2.2.2.2.2.2.2.2)
              clear hSK
              go_wp2_with fail
              go_meet
              exact ⟨HA13, HX13, HL13, HXL13, HXB13, HYL13, HYB13, HB13⟩
          · have q0 : (E == 0) = false := by simpa using h0
            clear h0
            go_wp2_with fail
            go_meet
            exact ⟨HA9, HX9, HL9, HXL9, HXB9, HYL9, HYB9, HB9⟩
        case rest =>
          clear HA9 HX9 HL9 HXL9 HXB9 HYL9 HYB9 HB9
          obtain ⟨HA14, HX14, HL14, HXL14, HXB14, HYL14, HYB14, HB14⟩ := hcut
          go_upto_region 18 with fail
          have hS : Cs [(⟨yb, 0, none⟩, .int .i64 y.number), (⟨yb, 1, none⟩, .slice A8 y.accs.length c8), (⟨yb, 2, none⟩, .slice B8 y.lines.length d8), (⟨yb, 3, none⟩, .slice C8 y.offers.length e8), (⟨yb, 4, none⟩, .int .i64 y.next), (⟨yb, 5, none⟩, .int .i64 y.fees), (⟨yb, 6, none⟩, .int .u64 y.link), (⟨gb, 0, none⟩, .int .i64 g.number), (⟨gb, 1, none⟩, .slice A n c), (⟨gb, 2, none⟩, .slice B m c2), (⟨gb, 3, none⟩, .slice C mo c3), (⟨gb, 4, none⟩, .int .i64 g.next), (⟨gb, 5, none⟩, .int .i64 g.fees), (⟨gb, 6, none⟩, .int .u64 g.link), (⟨ab, 0, none⟩, .string (codeOf s)), (⟨ab, 1, none⟩, .int .i64 (issOf s))] wc.drew ∧ LedAt PY wc.drew (.slice A8 y.accs.length c8) (.slice B8 y.lines.length d8) (.slice C8 y.offers.length e8) y ∧ LedAt (fun b => w.heap.size < b) wc.drew (.slice A n c) (.slice B m c2) (.slice C mo c3) g ∧ Below w.heap.size w wc.drew := ⟨Cs.app (Cs.app HYB14.out.cs7.drew HX14.out.cs7.drew) HA14.out.cs2.drew, HYL14.out.below (bdrew (bref _)), HL14.out.below (bdrew (bref _)), bdrew HB14.out⟩
          clear HA14 HX14 HL14 HXL14 HXB14 HYL14 HYB14 HB14
          rcases Decidable.em (F = 0) with h0 | h0
          · subst h0
            rcases (show ow = true ∨ ow = false by cases ow <;> simp) with h1 | h1
            · subst h1
              have hs1 := (HOS.out rfl).1
              have hni := (HOS.out rfl).2
              obtain ⟨hyw, hya, hyi⟩ := HDB.out hs1 rfl
              rw [if_neg hni] at hyi
              have HIY := Lib.hid (fun W (hW : LedAt PY W (.slice A8 y.accs.length c8) (.slice B8 y.lines.length d8) (.slice C8 y.offers.length e8) y) => issued_w PY y s (.slice B8 y.lines.length d8) W hs2 hyw hW.l)
              rw [hyi] at HIY
              unfold valS at HIY
              have htb := HTB.out
              have w1 : IntKind.i64.wrap (T - mm) = T - mm := IntWalk.i64_in _ (by omega)
              clear hyw hya hyi hs1 hni
              refine wp_region_held_drew (S := (fun W => Cs [(⟨yb, 0, none⟩, .int .i64 y.number), (⟨yb, 1, none⟩, .slice A8 y.accs.length c8), (⟨yb, 2, none⟩, .slice B8 y.lines.length d8), (⟨yb, 3, none⟩, .slice C8 y.offers.length e8), (⟨yb, 4, none⟩, .int .i64 y.next), (⟨yb, 5, none⟩, .int .i64 y.fees), (⟨yb, 6, none⟩, .int .u64 y.link), (⟨gb, 0, none⟩, .int .i64 g.number), (⟨gb, 1, none⟩, .slice A n c), (⟨gb, 2, none⟩, .slice B m c2), (⟨gb, 3, none⟩, .slice C mo c3), (⟨gb, 4, none⟩, .int .i64 g.next), (⟨gb, 5, none⟩, .int .i64 g.fees), (⟨gb, 6, none⟩, .int .u64 g.link), (⟨ab, 0, none⟩, .string (codeOf s)), (⟨ab, 1, none⟩, .int .i64 (issOf s))] W ∧ LedAt PY W (.slice A8 y.accs.length c8) (.slice B8 y.lines.length d8) (.slice C8 y.offers.length e8) y ∧ LedAt (fun b => w.heap.size < b) W (.slice A n c) (.slice B m c2) (.slice C mo c3) g ∧ Below w.heap.size w W)) (by kernel_rfl) hS (fun hSK => ?_)
              clear hS
              refine take_d (some 157) (i := 0) (v := ?_) rfl rfl (by kernel_rfl) (by kernel_rfl) (by kernel_rfl) (fun _ _ _ h => h) (Or.inl ⟨by rfl, ?_⟩) (by assumption) ?_
              rotate_left
              · intro w hSw; (dsimp only [Cs] at hSw); go_simp; (try with_reducible rfl)
              try simp only [Act.put, List.setIfInBounds_toArray, List.set_cons_zero, List.set_cons_succ]
              refine take_d (some 158) (i := 1) (v := ?_) rfl rfl (by kernel_rfl) (by kernel_rfl) (by kernel_rfl) (fun _ _ _ h => h) (Or.inl ⟨by rfl, ?_⟩) (by assumption) ?_
              rotate_left
              · intro w hSw; (dsimp only [Cs] at hSw); go_simp; (try with_reducible rfl)
              try simp only [Act.put, List.setIfInBounds_toArray, List.set_cons_zero, List.set_cons_succ]
              refine take_d (some 159) (i := 2) (v := ?_) rfl rfl (by kernel_rfl) (by kernel_rfl) (by kernel_rfl) (fun _ _ _ h => h) (Or.inl ⟨by rfl, ?_⟩) (by assumption) ?_
              rotate_left
              · intro w hSw; (dsimp only [Cs] at hSw); go_simp; (try with_reducible rfl)
              try simp only [Act.put, List.setIfInBounds_toArray, List.set_cons_zero, List.set_cons_succ]
              refine take_d (some 160) (i := 3) (v := ?_) rfl rfl (by kernel_rfl) (by kernel_rfl) (by kernel_rfl) (fun _ _ _ h => h) (Or.inl ⟨by rfl, ?_⟩) (by assumption) ?_
              rotate_left
              · intro w hSw; (dsimp only [Cs] at hSw); go_simp; (try with_reducible rfl)
              try simp only [Act.put, List.setIfInBounds_toArray, List.set_cons_zero, List.set_cons_succ]
              refine take_d (some 161) (i := 4) (v := ?_) rfl rfl (by kernel_rfl) (by kernel_rfl) (by kernel_rfl) (fun _ _ _ h => h) (Or.inl ⟨by rfl, ?_⟩) (by assumption) ?_
              rotate_left
              · intro w hSw; (dsimp only [Cs] at hSw); go_simp; (try with_reducible rfl)
              try simp only [Act.put, List.setIfInBounds_toArray, List.set_cons_zero, List.set_cons_succ]
              refine take_d (some 162) (i := 5) (v := ?_) rfl rfl (by kernel_rfl) (by kernel_rfl) (by kernel_rfl) (fun _ _ _ h => h) (Or.inl ⟨by rfl, ?_⟩) (by assumption) ?_
              rotate_left
              · intro w hSw; (dsimp only [Cs] at hSw); go_simp; (try with_reducible rfl)
              try simp only [Act.put, List.setIfInBounds_toArray, List.set_cons_zero, List.set_cons_succ]
              refine take_d (some 163) (i := 6) (v := ?_) rfl rfl (by kernel_rfl) (by kernel_rfl) (by kernel_rfl) (fun _ _ _ h => h) (Or.inl ⟨by rfl, ?_⟩) (by assumption) ?_
              rotate_left
              · intro w hSw; (dsimp only [Cs] at hSw); go_simp; (try with_reducible rfl)
              try simp only [Act.put, List.setIfInBounds_toArray, List.set_cons_zero, List.set_cons_succ]
              refine take_d (some 164) (i := 7) (v := ?_) rfl rfl (by kernel_rfl) (by kernel_rfl) (by kernel_rfl) (fun _ _ _ h => h) (Or.inl ⟨by rfl, ?_⟩) (by assumption) ?_
              rotate_left
              · intro w hSw; (dsimp only [Cs] at hSw); go_simp; (try with_reducible rfl)
              try simp only [Act.put, List.setIfInBounds_toArray, List.set_cons_zero, List.set_cons_succ]
              refine take_d (some 165) (i := 8) (v := ?_) rfl rfl (by kernel_rfl) (by kernel_rfl) (by kernel_rfl) (fun _ _ _ h => h) (Or.inl ⟨by rfl, ?_⟩) (by assumption) ?_
              rotate_left
              · intro w hSw; (dsimp only [Cs] at hSw); go_simp; (try with_reducible rfl)
              try simp only [Act.put, List.setIfInBounds_toArray, List.set_cons_zero, List.set_cons_succ]
              refine take_d (some 166) (i := 9) (v := ?_) rfl rfl (by kernel_rfl) (by kernel_rfl) (by kernel_rfl) (fun _ _ _ h => h) (Or.inl ⟨by rfl, ?_⟩) (by assumption) ?_
              rotate_left
              · intro w hSw; (dsimp only [Cs] at hSw); go_simp; (try with_reducible rfl)
              try simp only [Act.put, List.setIfInBounds_toArray, List.set_cons_zero, List.set_cons_succ]
              refine take_d (some 168) (i := 11) (v := ?_) rfl rfl (by kernel_rfl) (by kernel_rfl) (by kernel_rfl) (fun _ _ _ h => h) (Or.inl ⟨by rfl, ?_⟩) (by assumption) ?_
              rotate_left
              · intro w hSw; (dsimp only [Cs] at hSw); go_simp; (try with_reducible rfl)
              try simp only [Act.put, List.setIfInBounds_toArray, List.set_cons_zero, List.set_cons_succ]
              refine take_d (some 169) (i := 12) (v := ?_) rfl rfl (by kernel_rfl) (by kernel_rfl) (by kernel_rfl) (fun _ _ _ h => h) (Or.inl ⟨by rfl, ?_⟩) (by assumption) ?_
              rotate_left
              · intro w hSw; (dsimp only [Cs] at hSw); go_simp; (try with_reducible rfl)
              try simp only [Act.put, List.setIfInBounds_toArray, List.set_cons_zero, List.set_cons_succ]
              refine take_d (some 170) (i := 13) (v := ?_) rfl rfl (by kernel_rfl) (by kernel_rfl) (by kernel_rfl) (fun _ _ _ h => h) (Or.inl ⟨by rfl, ?_⟩) (by assumption) ?_
              rotate_left
              · intro w hSw; (dsimp only [Cs] at hSw); go_simp; (try with_reducible rfl)
              try simp only [Act.put, List.setIfInBounds_toArray, List.set_cons_zero, List.set_cons_succ]
              refine take_d (some 172) (i := 15) (v := ?_) rfl rfl (by kernel_rfl) (by kernel_rfl) (by kernel_rfl) (fun _ _ _ h => h) (Or.inl ⟨by rfl, ?_⟩) (by assumption) ?_
              rotate_left
              · intro w hSw; (dsimp only [Cs] at hSw); go_simp; (try with_reducible rfl)
              try simp only [Act.put, List.setIfInBounds_toArray, List.set_cons_zero, List.set_cons_succ]
              refine wpAnyH_ready (rs := [10]) (by kernel_rfl) (by simp) ?_
              refine AllReadyH.cons rfl (fun K hK => ?_) AllReadyH.nil
              go_simp
              refine (HIY.out _ hSK.2.1).mono ?_
              rintro e wK ⟨rfl, hbK⟩
              go_wp2_with fail
              refine hK.out _ _ ?_ (fun hHeld => ?_)
              · exact ⟨Cs.below hSK.1 hbK, hSK.2.1.below hbK, hSK.2.2.1.below hbK, bstep hSK.2.2.2 hbK⟩
              clear hSK
              have hSK := hHeld
              clear hHeld
              clear hK K
              try simp only [Act.put, List.setIfInBounds_toArray, List.set_cons_zero, List.set_cons_succ]
              refine wpAnyH_ready (rs := [14]) (by kernel_rfl) (by simp) ?_
              refine AllReadyH.cons rfl (fun K hK => ?_) AllReadyH.nil
              go_simp
              refine (HISG.out _ hSK.2.2.1).mono ?_
              rintro e wK ⟨rfl, hbK⟩
              go_wp2_with fail
              refine hK.out _ _ ?_ (fun hHeld => ?_)
              · exact ⟨Cs.below hSK.1 hbK, hSK.2.1.below hbK, hSK.2.2.1.below hbK, bstep hSK.2.2.2 hbK⟩
              clear hSK
              have hSK := hHeld
              clear hHeld
              clear hK K
              try simp only [Act.put, List.setIfInBounds_toArray, List.set_cons_zero, List.set_cons_succ]
              refine take_d (some 173) (i := 16) (v := ?_) rfl rfl (by kernel_rfl) (by kernel_rfl) (by kernel_rfl) (fun _ _ _ h => h) (Or.inl ⟨by rfl, ?_⟩) (by assumption) ?_
              rotate_left
              · intro w hSw; (dsimp only [Cs] at hSw); go_simp; (try with_reducible rfl)
              try simp only [Act.put, List.setIfInBounds_toArray, List.set_cons_zero, List.set_cons_succ]
              refine take_d (some 174) (i := 17) (v := ?_) rfl rfl (by kernel_rfl) (by kernel_rfl) (by kernel_rfl) (fun _ _ _ h => h) (Or.inl ⟨by rfl, ?_⟩) (by assumption) ?_
              rotate_left
              · intro w hSw; (dsimp only [Cs] at hSw); go_simp; (try with_reducible rfl)
              try simp only [Act.put, List.setIfInBounds_toArray, List.set_cons_zero, List.set_cons_succ]
              refine take_d (some 175) (i := 18) (v := ?_) rfl rfl (by kernel_rfl) (by kernel_rfl) (by kernel_rfl) (fun _ _ _ h => h) (Or.inl ⟨by rfl, ?_⟩) (by assumption) ?_
              rotate_left
              · intro w hSw; (dsimp only [Cs] at hSw); go_simp; (try with_reducible rfl)
              try simp only [Act.put, List.setIfInBounds_toArray, List.set_cons_zero, List.set_cons_succ]
              refine take_d (some 176) (i := 19) (v := ?_) rfl rfl (by kernel_rfl) (by kernel_rfl) (by kernel_rfl) (fun _ _ _ h => h) (Or.inl ⟨by rfl, ?_⟩) (by assumption) ?_
              rotate_left
              · intro w hSw; (dsimp only [Cs] at hSw); go_simp; (try with_reducible rfl)
              try simp only [Act.put, List.setIfInBounds_toArray, List.set_cons_zero, List.set_cons_succ]
              refine wpAnyH_ready (rs := [20]) (by kernel_rfl) (by simp) ?_
              refine AllReadyH.cons rfl (fun K hK => ?_) AllReadyH.nil
              go_simp
              refine (sane37 _).mono ?_
              rintro e wK ⟨rfl, hbK⟩
              go_wp2_with fail
              refine hK.out _ _ ?_ (fun hHeld => ?_)
              · exact ⟨Cs.below hSK.1 hbK, hSK.2.1.below hbK, hSK.2.2.1.below hbK, bstep hSK.2.2.2 hbK⟩
              clear hSK
              have hSK := hHeld
              clear hHeld
              clear hK K
              try simp only [Act.put, List.setIfInBounds_toArray, List.set_cons_zero, List.set_cons_succ]
              refine take_d (some 178) (i := 21) (v := ?_) rfl rfl (by kernel_rfl) (by kernel_rfl) (by kernel_rfl) (fun _ _ _ h => h) (Or.inl ⟨by rfl, ?_⟩) (by assumption) ?_
              rotate_left
              · intro w hSw; (dsimp only [Cs] at hSw); go_simp; (try with_reducible rfl)
              try simp only [Act.put, List.setIfInBounds_toArray, List.set_cons_zero, List.set_cons_succ]
              refine take_d (some 4) (i := 22) (v := ?_) rfl rfl (by kernel_rfl) (by kernel_rfl) (by kernel_rfl) (fun _ _ _ h => h) (Or.inl ⟨by rfl, ?_⟩) (by assumption) ?_
              rotate_left
              · intro w hSw; (dsimp only [Cs] at hSw); go_simp; (try with_reducible rfl)
              try simp only [Act.put, List.setIfInBounds_toArray, List.set_cons_zero, List.set_cons_succ]
              refine wpAnyH_done (by kernel_rfl) ?_ _
              have HB19 := Lib.hid hSK.2.2.2
              clear hSK
              go_wp2_with fail
              go_ret
              exact ⟨rfl, HB19.out⟩
            · subst h1
              refine wp_region_held_drew (S := (fun W => Cs [(⟨yb, 0, none⟩, .int .i64 y.number), (⟨yb, 1, none⟩, .slice A8 y.accs.length c8), (⟨yb, 2, none⟩, .slice B8 y.lines.length d8), (⟨yb, 3, none⟩, .slice C8 y.offers.length e8), (⟨yb, 4, none⟩, .int .i64 y.next), (⟨yb, 5, none⟩, .int .i64 y.fees), (⟨yb, 6, none⟩, .int .u64 y.link), (⟨gb, 0, none⟩, .int .i64 g.number), (⟨gb, 1, none⟩, .slice A n c), (⟨gb, 2, none⟩, .slice B m c2), (⟨gb, 3, none⟩, .slice C mo c3), (⟨gb, 4, none⟩, .int .i64 g.next), (⟨gb, 5, none⟩, .int .i64 g.fees), (⟨gb, 6, none⟩, .int .u64 g.link), (⟨ab, 0, none⟩, .string (codeOf s)), (⟨ab, 1, none⟩, .int .i64 (issOf s))] W ∧ LedAt PY W (.slice A8 y.accs.length c8) (.slice B8 y.lines.length d8) (.slice C8 y.offers.length e8) y ∧ LedAt (fun b => w.heap.size < b) W (.slice A n c) (.slice B m c2) (.slice C mo c3) g ∧ Below w.heap.size w W)) (by kernel_rfl) hS (fun hSK => ?_)
              clear hS
              refine take_d (some 157) (i := 0) (v := ?_) rfl rfl (by kernel_rfl) (by kernel_rfl) (by kernel_rfl) (fun _ _ _ h => h) (Or.inl ⟨by rfl, ?_⟩) (by assumption) ?_
              rotate_left
              · intro w hSw; (dsimp only [Cs] at hSw); go_simp; (try with_reducible rfl)
              try simp only [Act.put, List.setIfInBounds_toArray, List.set_cons_zero, List.set_cons_succ]
              refine take_d (some 158) (i := 1) (v := ?_) rfl rfl (by kernel_rfl) (by kernel_rfl) (by kernel_rfl) (fun _ _ _ h => h) (Or.inl ⟨by rfl, ?_⟩) (by assumption) ?_
              rotate_left
              · intro w hSw; (dsimp only [Cs] at hSw); go_simp; (try with_reducible rfl)
              try simp only [Act.put, List.setIfInBounds_toArray, List.set_cons_zero, List.set_cons_succ]
              refine take_d (some 159) (i := 2) (v := ?_) rfl rfl (by kernel_rfl) (by kernel_rfl) (by kernel_rfl) (fun _ _ _ h => h) (Or.inl ⟨by rfl, ?_⟩) (by assumption) ?_
              rotate_left
              · intro w hSw; (dsimp only [Cs] at hSw); go_simp; (try with_reducible rfl)
              try simp only [Act.put, List.setIfInBounds_toArray, List.set_cons_zero, List.set_cons_succ]
              refine take_d (some 160) (i := 3) (v := ?_) rfl rfl (by kernel_rfl) (by kernel_rfl) (by kernel_rfl) (fun _ _ _ h => h) (Or.inl ⟨by rfl, ?_⟩) (by assumption) ?_
              rotate_left
              · intro w hSw; (dsimp only [Cs] at hSw); go_simp; (try with_reducible rfl)
              try simp only [Act.put, List.setIfInBounds_toArray, List.set_cons_zero, List.set_cons_succ]
              refine take_d (some 161) (i := 4) (v := ?_) rfl rfl (by kernel_rfl) (by kernel_rfl) (by kernel_rfl) (fun _ _ _ h => h) (Or.inl ⟨by rfl, ?_⟩) (by assumption) ?_
              rotate_left
              · intro w hSw; (dsimp only [Cs] at hSw); go_simp; (try with_reducible rfl)
              try simp only [Act.put, List.setIfInBounds_toArray, List.set_cons_zero, List.set_cons_succ]
              refine take_d (some 162) (i := 5) (v := ?_) rfl rfl (by kernel_rfl) (by kernel_rfl) (by kernel_rfl) (fun _ _ _ h => h) (Or.inl ⟨by rfl, ?_⟩) (by assumption) ?_
              rotate_left
              · intro w hSw; (dsimp only [Cs] at hSw); go_simp; (try with_reducible rfl)
              try simp only [Act.put, List.setIfInBounds_toArray, List.set_cons_zero, List.set_cons_succ]
              refine take_d (some 163) (i := 6) (v := ?_) rfl rfl (by kernel_rfl) (by kernel_rfl) (by kernel_rfl) (fun _ _ _ h => h) (Or.inl ⟨by rfl, ?_⟩) (by assumption) ?_
              rotate_left
              · intro w hSw; (dsimp only [Cs] at hSw); go_simp; (try with_reducible rfl)
              try simp only [Act.put, List.setIfInBounds_toArray, List.set_cons_zero, List.set_cons_succ]
              refine take_d (some 164) (i := 7) (v := undef) rfl rfl (by kernel_rfl) (by kernel_rfl) (by kernel_rfl) (fun _ _ _ h => h) (Or.inr ⟨by rfl, rfl⟩) (by assumption) ?_
              try simp only [Act.put, List.setIfInBounds_toArray, List.set_cons_zero, List.set_cons_succ]
              refine take_d (some 165) (i := 8) (v := undef) rfl rfl (by kernel_rfl) (by kernel_rfl) (by kernel_rfl) (fun _ _ _ h => h) (Or.inr ⟨by rfl, rfl⟩) (by assumption) ?_
              try simp only [Act.put, List.setIfInBounds_toArray, List.set_cons_zero, List.set_cons_succ]
              refine take_d (some 166) (i := 9) (v := undef) rfl rfl (by kernel_rfl) (by kernel_rfl) (by kernel_rfl) (fun _ _ _ h => h) (Or.inr ⟨by rfl, rfl⟩) (by assumption) ?_
              try simp only [Act.put, List.setIfInBounds_toArray, List.set_cons_zero, List.set_cons_succ]
              refine take_d (some 167) (i := 10) (v := undef) rfl rfl (by kernel_rfl) (by kernel_rfl) (by kernel_rfl) (fun _ _ _ h => h) (Or.inr ⟨by rfl, rfl⟩) (by assumption) ?_
              try simp only [Act.put, List.setIfInBounds_toArray, List.set_cons_zero, List.set_cons_succ]
              refine take_d (some 168) (i := 11) (v := undef) rfl rfl (by kernel_rfl) (by kernel_rfl) (by kernel_rfl) (fun _ _ _ h => h) (Or.inr ⟨by rfl, rfl⟩) (by assumption) ?_
              try simp only [Act.put, List.setIfInBounds_toArray, List.set_cons_zero, List.set_cons_succ]
              refine take_d (some 169) (i := 12) (v := undef) rfl rfl (by kernel_rfl) (by kernel_rfl) (by kernel_rfl) (fun _ _ _ h => h) (Or.inr ⟨by rfl, rfl⟩) (by assumption) ?_
              try simp only [Act.put, List.setIfInBounds_toArray, List.set_cons_zero, List.set_cons_succ]
              refine take_d (some 170) (i := 13) (v := undef) rfl rfl (by kernel_rfl) (by kernel_rfl) (by kernel_rfl) (fun _ _ _ h => h) (Or.inr ⟨by rfl, rfl⟩) (by assumption) ?_
              try simp only [Act.put, List.setIfInBounds_toArray, List.set_cons_zero, List.set_cons_succ]
              refine take_d (some 171) (i := 14) (v := undef) rfl rfl (by kernel_rfl) (by kernel_rfl) (by kernel_rfl) (fun _ _ _ h => h) (Or.inr ⟨by rfl, rfl⟩) (by assumption) ?_
              try simp only [Act.put, List.setIfInBounds_toArray, List.set_cons_zero, List.set_cons_succ]
              refine take_d (some 172) (i := 15) (v := undef) rfl rfl (by kernel_rfl) (by kernel_rfl) (by kernel_rfl) (fun _ _ _ h => h) (Or.inr ⟨by rfl, rfl⟩) (by assumption) ?_
              try simp only [Act.put, List.setIfInBounds_toArray, List.set_cons_zero, List.set_cons_succ]
              refine take_d (some 173) (i := 16) (v := undef) rfl rfl (by kernel_rfl) (by kernel_rfl) (by kernel_rfl) (fun _ _ _ h => h) (Or.inr ⟨by rfl, rfl⟩) (by assumption) ?_
              try simp only [Act.put, List.setIfInBounds_toArray, List.set_cons_zero, List.set_cons_succ]
              refine take_d (some 174) (i := 17) (v := undef) rfl rfl (by kernel_rfl) (by kernel_rfl) (by kernel_rfl) (fun _ _ _ h => h) (Or.inr ⟨by rfl, rfl⟩) (by assumption) ?_
              try simp only [Act.put, List.setIfInBounds_toArray, List.set_cons_zero, List.set_cons_succ]
              refine take_d (some 175) (i := 18) (v := ?_) rfl rfl (by kernel_rfl) (by kernel_rfl) (by kernel_rfl) (fun _ _ _ h => h) (Or.inl ⟨by rfl, ?_⟩) (by assumption) ?_
              rotate_left
              · intro w hSw; (dsimp only [Cs] at hSw); go_simp; (try with_reducible rfl)
              try simp only [Act.put, List.setIfInBounds_toArray, List.set_cons_zero, List.set_cons_succ]
              refine take_d (some 176) (i := 19) (v := ?_) rfl rfl (by kernel_rfl) (by kernel_rfl) (by kernel_rfl) (fun _ _ _ h => h) (Or.inl ⟨by rfl, ?_⟩) (by assumption) ?_
              rotate_left
              · intro w hSw; (dsimp only [Cs] at hSw); go_simp; (try with_reducible rfl)
              try simp only [Act.put, List.setIfInBounds_toArray, List.set_cons_zero, List.set_cons_succ]
              refine wpAnyH_ready (rs := [20]) (by kernel_rfl) (by simp) ?_
              refine AllReadyH.cons rfl (fun K hK => ?_) AllReadyH.nil
              go_simp
              refine (sane37 _).mono ?_
              rintro e wK ⟨rfl, hbK⟩
              go_wp2_with fail
              refine hK.out _ _ ?_ (fun hHeld => ?_)
              · exact ⟨Cs.below hSK.1 hbK, hSK.2.1.below hbK, hSK.2.2.1.below hbK, bstep hSK.2.2.2 hbK⟩
              clear hSK
              have hSK := hHeld
              clear hHeld
              clear hK K
              try simp only [Act.put, List.setIfInBounds_toArray, List.set_cons_zero, List.set_cons_succ]
              refine take_d (some 178) (i := 21) (v := ?_) rfl rfl (by kernel_rfl) (by kernel_rfl) (by kernel_rfl) (fun _ _ _ h => h) (Or.inl ⟨by rfl, ?_⟩) (by assumption) ?_
              rotate_left
              · intro w hSw; (dsimp only [Cs] at hSw); go_simp; (try with_reducible rfl)
              try simp only [Act.put, List.setIfInBounds_toArray, List.set_cons_zero, List.set_cons_succ]
              refine take_d (some 4) (i := 22) (v := ?_) rfl rfl (by kernel_rfl) (by kernel_rfl) (by kernel_rfl) (fun _ _ _ h => h) (Or.inl ⟨by rfl, ?_⟩) (by assumption) ?_
              rotate_left
              · intro w hSw; (dsimp only [Cs] at hSw); go_simp; (try with_reducible rfl)
              try simp only [Act.put, List.setIfInBounds_toArray, List.set_cons_zero, List.set_cons_succ]
              refine wpAnyH_done (by kernel_rfl) ?_ _
              have HB19 := Lib.hid hSK.2.2.2
              clear hSK
              go_wp2_with fail
              go_ret
              exact ⟨rfl, HB19.out⟩
          · have q0 : (F != 0) = true := bne_iff_ne.2 h0
            clear h0
            refine wp_region_held_drew (S := (fun W => Cs [(⟨yb, 0, none⟩, .int .i64 y.number), (⟨yb, 1, none⟩, .slice A8 y.accs.length c8), (⟨yb, 2, none⟩, .slice B8 y.lines.length d8), (⟨yb, 3, none⟩, .slice C8 y.offers.length e8), (⟨yb, 4, none⟩, .int .i64 y.next), (⟨yb, 5, none⟩, .int .i64 y.fees), (⟨yb, 6, none⟩, .int .u64 y.link), (⟨gb, 0, none⟩, .int .i64 g.number), (⟨gb, 1, none⟩, .slice A n c), (⟨gb, 2, none⟩, .slice B m c2), (⟨gb, 3, none⟩, .slice C mo c3), (⟨gb, 4, none⟩, .int .i64 g.next), (⟨gb, 5, none⟩, .int .i64 g.fees), (⟨gb, 6, none⟩, .int .u64 g.link), (⟨ab, 0, none⟩, .string (codeOf s)), (⟨ab, 1, none⟩, .int .i64 (issOf s))] W ∧ LedAt PY W (.slice A8 y.accs.length c8) (.slice B8 y.lines.length d8) (.slice C8 y.offers.length e8) y ∧ LedAt (fun b => w.heap.size < b) W (.slice A n c) (.slice B m c2) (.slice C mo c3) g ∧ Below w.heap.size w W)) (by kernel_rfl) hS (fun hSK => ?_)
            clear hS
            refine take_d (some 157) (i := 0) (v := ?_) rfl rfl (by kernel_rfl) (by kernel_rfl) (by kernel_rfl) (fun _ _ _ h => h) (Or.inl ⟨by rfl, ?_⟩) (by assumption) ?_
            rotate_left
            · intro w hSw; (dsimp only [Cs] at hSw); go_simp; (try with_reducible rfl)
            try simp only [Act.put, List.setIfInBounds_toArray, List.set_cons_zero, List.set_cons_succ]
            refine take_d (some 158) (i := 1) (v := ?_) rfl rfl (by kernel_rfl) (by kernel_rfl) (by kernel_rfl) (fun _ _ _ h => h) (Or.inl ⟨by rfl, ?_⟩) (by assumption) ?_
            rotate_left
            · intro w hSw; (dsimp only [Cs] at hSw); go_simp; (try with_reducible rfl)
            try simp only [Act.put, List.setIfInBounds_toArray, List.set_cons_zero, List.set_cons_succ]
            refine take_d (some 159) (i := 2) (v := ?_) rfl rfl (by kernel_rfl) (by kernel_rfl) (by kernel_rfl) (fun _ _ _ h => h) (Or.inl ⟨by rfl, ?_⟩) (by assumption) ?_
            rotate_left
            · intro w hSw; (dsimp only [Cs] at hSw); go_simp; (try with_reducible rfl)
            try simp only [Act.put, List.setIfInBounds_toArray, List.set_cons_zero, List.set_cons_succ]
            refine take_d (some 160) (i := 3) (v := undef) rfl rfl (by kernel_rfl) (by kernel_rfl) (by kernel_rfl) (fun _ _ _ h => h) (Or.inr ⟨by rfl, rfl⟩) (by assumption) ?_
            try simp only [Act.put, List.setIfInBounds_toArray, List.set_cons_zero, List.set_cons_succ]
            refine take_d (some 161) (i := 4) (v := undef) rfl rfl (by kernel_rfl) (by kernel_rfl) (by kernel_rfl) (fun _ _ _ h => h) (Or.inr ⟨by rfl, rfl⟩) (by assumption) ?_
            try simp only [Act.put, List.setIfInBounds_toArray, List.set_cons_zero, List.set_cons_succ]
            refine take_d (some 162) (i := 5) (v := ?_) rfl rfl (by kernel_rfl) (by kernel_rfl) (by kernel_rfl) (fun _ _ _ h => h) (Or.inl ⟨by rfl, ?_⟩) (by assumption) ?_
            rotate_left
            · intro w hSw; (dsimp only [Cs] at hSw); go_simp; (try with_reducible rfl)
            try simp only [Act.put, List.setIfInBounds_toArray, List.set_cons_zero, List.set_cons_succ]
            refine take_d (some 163) (i := 6) (v := ?_) rfl rfl (by kernel_rfl) (by kernel_rfl) (by kernel_rfl) (fun _ _ _ h => h) (Or.inl ⟨by rfl, ?_⟩) (by assumption) ?_
            rotate_left
            · intro w hSw; (dsimp only [Cs] at hSw); go_simp; (try with_reducible rfl)
            try simp only [Act.put, List.setIfInBounds_toArray, List.set_cons_zero, List.set_cons_succ]
            refine take_d (some 164) (i := 7) (v := undef) rfl rfl (by kernel_rfl) (by kernel_rfl) (by kernel_rfl) (fun _ _ _ h => h) (Or.inr ⟨by rfl, rfl⟩) (by assumption) ?_
            try simp only [Act.put, List.setIfInBounds_toArray, List.set_cons_zero, List.set_cons_succ]
            refine take_d (some 165) (i := 8) (v := undef) rfl rfl (by kernel_rfl) (by kernel_rfl) (by kernel_rfl) (fun _ _ _ h => h) (Or.inr ⟨by rfl, rfl⟩) (by assumption) ?_
            try simp only [Act.put, List.setIfInBounds_toArray, List.set_cons_zero, List.set_cons_succ]
            refine take_d (some 166) (i := 9) (v := undef) rfl rfl (by kernel_rfl) (by kernel_rfl) (by kernel_rfl) (fun _ _ _ h => h) (Or.inr ⟨by rfl, rfl⟩) (by assumption) ?_
            try simp only [Act.put, List.setIfInBounds_toArray, List.set_cons_zero, List.set_cons_succ]
            refine take_d (some 167) (i := 10) (v := undef) rfl rfl (by kernel_rfl) (by kernel_rfl) (by kernel_rfl) (fun _ _ _ h => h) (Or.inr ⟨by rfl, rfl⟩) (by assumption) ?_
            try simp only [Act.put, List.setIfInBounds_toArray, List.set_cons_zero, List.set_cons_succ]
            refine take_d (some 168) (i := 11) (v := undef) rfl rfl (by kernel_rfl) (by kernel_rfl) (by kernel_rfl) (fun _ _ _ h => h) (Or.inr ⟨by rfl, rfl⟩) (by assumption) ?_
            try simp only [Act.put, List.setIfInBounds_toArray, List.set_cons_zero, List.set_cons_succ]
            refine take_d (some 169) (i := 12) (v := undef) rfl rfl (by kernel_rfl) (by kernel_rfl) (by kernel_rfl) (fun _ _ _ h => h) (Or.inr ⟨by rfl, rfl⟩) (by assumption) ?_
            try simp only [Act.put, List.setIfInBounds_toArray, List.set_cons_zero, List.set_cons_succ]
            refine take_d (some 170) (i := 13) (v := undef) rfl rfl (by kernel_rfl) (by kernel_rfl) (by kernel_rfl) (fun _ _ _ h => h) (Or.inr ⟨by rfl, rfl⟩) (by assumption) ?_
            try simp only [Act.put, List.setIfInBounds_toArray, List.set_cons_zero, List.set_cons_succ]
            refine take_d (some 171) (i := 14) (v := undef) rfl rfl (by kernel_rfl) (by kernel_rfl) (by kernel_rfl) (fun _ _ _ h => h) (Or.inr ⟨by rfl, rfl⟩) (by assumption) ?_
            try simp only [Act.put, List.setIfInBounds_toArray, List.set_cons_zero, List.set_cons_succ]
            refine take_d (some 172) (i := 15) (v := undef) rfl rfl (by kernel_rfl) (by kernel_rfl) (by kernel_rfl) (fun _ _ _ h => h) (Or.inr ⟨by rfl, rfl⟩) (by assumption) ?_
            try simp only [Act.put, List.setIfInBounds_toArray, List.set_cons_zero, List.set_cons_succ]
            refine take_d (some 173) (i := 16) (v := undef) rfl rfl (by kernel_rfl) (by kernel_rfl) (by kernel_rfl) (fun _ _ _ h => h) (Or.inr ⟨by rfl, rfl⟩) (by assumption) ?_
            try simp only [Act.put, List.setIfInBounds_toArray, List.set_cons_zero, List.set_cons_succ]
            refine take_d (some 174) (i := 17) (v := undef) rfl rfl (by kernel_rfl) (by kernel_rfl) (by kernel_rfl) (fun _ _ _ h => h) (Or.inr ⟨by rfl, rfl⟩) (by assumption) ?_
            try simp only [Act.put, List.setIfInBounds_toArray, List.set_cons_zero, List.set_cons_succ]
            refine take_d (some 175) (i := 18) (v := ?_) rfl rfl (by kernel_rfl) (by kernel_rfl) (by kernel_rfl) (fun _ _ _ h => h) (Or.inl ⟨by rfl, ?_⟩) (by assumption) ?_
            rotate_left
            · intro w hSw; (dsimp only [Cs] at hSw); go_simp; (try with_reducible rfl)
            try simp only [Act.put, List.setIfInBounds_toArray, List.set_cons_zero, List.set_cons_succ]
            refine take_d (some 176) (i := 19) (v := ?_) rfl rfl (by kernel_rfl) (by kernel_rfl) (by kernel_rfl) (fun _ _ _ h => h) (Or.inl ⟨by rfl, ?_⟩) (by assumption) ?_
            rotate_left
            · intro w hSw; (dsimp only [Cs] at hSw); go_simp; (try with_reducible rfl)
            try simp only [Act.put, List.setIfInBounds_toArray, List.set_cons_zero, List.set_cons_succ]
            refine wpAnyH_ready (rs := [20]) (by kernel_rfl) (by simp) ?_
            refine AllReadyH.cons rfl (fun K hK => ?_) AllReadyH.nil
            go_simp
            refine (sane37 _).mono ?_
            rintro e wK ⟨rfl, hbK⟩
            go_wp2_with fail
            refine hK.out _ _ ?_ (fun hHeld => ?_)
            · exact ⟨Cs.below hSK.1 hbK, hSK.2.1.below hbK, hSK.2.2.1.below hbK, bstep hSK.2.2.2 hbK⟩
            clear hSK
            have hSK := hHeld
            clear hHeld
            clear hK K
            try simp only [Act.put, List.setIfInBounds_toArray, List.set_cons_zero, List.set_cons_succ]
            refine take_d (some 178) (i := 21) (v := ?_) rfl rfl (by kernel_rfl) (by kernel_rfl) (by kernel_rfl) (fun _ _ _ h => h) (Or.inl ⟨by rfl, ?_⟩) (by assumption) ?_
            rotate_left
            · intro w hSw; (dsimp only [Cs] at hSw); go_simp; (try with_reducible rfl)
            try simp only [Act.put, List.setIfInBounds_toArray, List.set_cons_zero, List.set_cons_succ]
            refine take_d (some 4) (i := 22) (v := ?_) rfl rfl (by kernel_rfl) (by kernel_rfl) (by kernel_rfl) (fun _ _ _ h => h) (Or.inl ⟨by rfl, ?_⟩) (by assumption) ?_
            rotate_left
            · intro w hSw; (dsimp only [Cs] at hSw); go_simp; (try with_reducible rfl)
            try simp only [Act.put, List.setIfInBounds_toArray, List.set_cons_zero, List.set_cons_succ]
            refine wpAnyH_done (by kernel_rfl) ?_ _
            have HB19 := Lib.hid hSK.2.2.2
            clear hSK
            go_wp2_with fail
            go_ret
            exact ⟨rfl, HB19.out⟩

end Go.Proofs.Ytfmdnhhdjjndbaa
