/- The walk of AccountsBegin: each sequence is used once, one after the other, and just the fee is taken. -/
import Derived.Test.YtfmdnhhdjjndbaaSrcL
import Derived.Test.YtfmdnhhdjjndbaaA36c
namespace Go.Proofs.Ytfmdnhhdjjndbaa
set_option linter.unusedVariables false
set_option linter.unusedSimpArgs false
open Go.RowKit

theorem getA_at {L : List Acc} {i : Int} {k : Nat} {a : Acc} (h : findA i L = k) (ha : L[k]? = some a) : getA i L = a := by
  unfold getA
  rw [h, ha]
  rfl

theorem led_acc (x0 x4 x5 x6 : Int) (A B C : Option Addr) (n c nl cl no co : Nat) (W : World) : Sem.run Try.prog (Instr.field 30 (.agg #[.int .i64 x0, .slice A n c, .slice B nl cl, .slice C no co, .int .i64 x4, .int .i64 x5, .int .u64 x6]) 1) W = .ok (.slice A n c) W := by kernel_rfl

set_option maxRecDepth 100000 in
set_option maxHeartbeats 8000000 in
theorem walkAccountsBegin (a0 : Option Addr) (len0 cap0 : Nat) (z0 : List Int) (a1 : Int) (w : World) (w0 : IsRow .i64 w a0 len0 cap0 z0) (w1 : (Lit.int .u8 a1).wf = true) :
    Calls Try.prog 3 #[.slice a0 len0 cap0, .int .u8 a1] w fun e w' => e = .returned (.bool true) ∧ Below w.heap.size w w' := by
  have HR := Lib.hid w0
  have hu : 0 ≤ a1 ∧ a1 ≤ 255 := (show IntKind.u8.min ≤ a1 ∧ a1 ≤ IntKind.u8.max by simpa [Lit.wf] using w1)
  clear w0 w1
  have hfd := led_acc
  go_enter Try.func3, Try.ntmps3
  go_wp2_with fail
  refine (New_run _ _ _ _ _ HR.out).mono ?_
  rintro e v1 ⟨rfl, hs1, hb1⟩
  have HS1 := Lib.hid hs1
  have HB1 := Lib.hid hb1
  clear hs1 hb1
  go_wp2_with fail
  refine (Ledger_run _ _ HS1.out).mono ?_
  rintro e v2 ⟨g, va, vl, vo, rfl, hg⟩
  obtain ⟨A, c, B', cb, C', cc, hva, hvl, hvo, _⟩ := hg.at_.form
  subst hva
  subst hvl
  subst hvo
  have HG := Lib.hid hg
  have HB2 := Lib.hid (show Below w.heap.size w v2 from Below.grown HB1.out hg.gr HB1.out.size (fun j hj => by cases hj; exact Nat.le_refl _))
  obtain ⟨n, hn⟩ : ∃ n, g.accs.length = n := ⟨_, rfl⟩
  have hn1 := hg.n1
  have hn5 := hg.n5
  have HN := Lib.hid hn
  rw [hn] at hn1 hn5 ⊢
  clear hg hn
  unfold valG
  go_wp2_with fail
  refine (Range_run _ _ 1 (n : Int) (by omega) (by omega) (by omega) HG.out.src).mono ?_
  rintro e v3 ⟨i, hi0, hi1, rfl, hs3, hg3⟩
  have HB3 := Lib.hid (show Below w.heap.size w v3 from Below.grown HB2.out hg3 HB2.out.size (fun j hj => by cases hj; exact Nat.le_refl _))
  have HA0 := Lib.hid (show AccAt (fun _ => True) v3 (.slice A n c) g.accs from by
    have h1 := HG.out.at_.a
    rw [HN.out] at h1
    exact h1.both hg3.size (fun k hk hp => hg3.block k hk (by have := HS1.out.lt; simp; omega)) (fun _ _ _ => trivial))
  have HID0 := Lib.hid (show (∀ (k : Nat) (a : Acc), g.accs[k]? = some a → a.id = (k : Int) + 1) ∧ (∀ (k : Nat) (a : Acc), g.accs[k]? = some a → a.seq ≤ 2 + ((0 : Nat) : Int)) ∧ g.accs.length = n ∧ AccsOk g.accs from ⟨HG.out.acc.id, fun k a ha => by have := (HG.out.acc.s0 a (List.mem_of_getElem? ha)).2; omega, HN.out, HG.out.ok.accs⟩)
  obtain ⟨f, hf, hf0, hf1⟩ : ∃ f : Int, 1 + a1 % 30 = f ∧ 1 ≤ f ∧ f ≤ 30 := ⟨_, rfl, by omega, by omega⟩
  generalize g.accs = L0 at *
  clear hs3 hg3 HS1 HB1 HB2 HG HN
  go_wp2_with fail
  clear hf
  go_loopw [6, 9] (fun l t W => ∃ (k : Nat) (L : List Acc) (B : Option Addr) (d : Nat), l = .slice B n d ∧ t = .int .i64 (k : Int) ∧ k ≤ 4 ∧ Hid ((∀ (j : Nat) (a : Acc), L[j]? = some a → a.id = (j : Int) + 1) ∧ (∀ (j : Nat) (a : Acc), L[j]? = some a → a.seq ≤ 2 + (k : Int)) ∧ L.length = n ∧ AccsOk L) ∧ Hid (AccAt (fun _ => True) W (.slice B n d) L) ∧ Hid (Below w.heap.size w W)) (fun _ t _ => 4 - (intOf t).toNat)
  case atStart => exact ⟨0, L0, A, c, rfl, rfl, by omega, HID0, HA0, HB3⟩
  case round =>
    clear HA0 HID0 HB3
    obtain ⟨k, L, B, d, rfl, rfl, hk, hL, hA, hB⟩ := hrel
    by_cases hlt : k < 4
    · obtain ⟨F, hF, hF0⟩ : ∃ F : Nat, (F : Int) + 1 = i ∧ F < n := ⟨(i - 1).toNat, by omega, by omega⟩
      obtain ⟨a, ha⟩ : ∃ a, L[F]? = some a := ⟨_, List.getElem?_eq_getElem (by rw [hL.out.2.2.1]; exact hF0)⟩
      have hfa : findA i L = F := findA_at ha (by rw [hL.out.1 F a ha]; exact hF) (fun j b hj hb e => by rw [hL.out.1 j b hb] at e; omega)
      have hAG := hL.out.2.2.2.each F a ha
      have hseq := hL.out.2.1 F a ha
      obtain ⟨_, _, b0, b1, s0, s1⟩ := hAG
      have HFA := Lib.hid hfa
      have HA := Lib.hid ha
      have HFI := Lib.hid (show ∀ W, AccAt (fun _ => True) W (.slice B n d) L → Calls Try.prog 13 #[.slice B n d, .int .i64 i] W fun e w' => e = .returned (.tuple #[.agg #[.int .i64 a.id, .int .i64 a.bal, .int .i64 a.seq], .bool true]) ∧ Below W.heap.size W w' from fun W hW => by
        have h1 := afind_run (fun _ => True) L i _ W (by rw [hL.out.2.2.1]; omega) hW
        rw [getA_at hfa ha, show hasA i L = true by unfold hasA; rw [hfa, hL.out.2.2.1]; exact decide_eq_true hF0] at h1
        exact h1)
      have HBE := Lib.hid (fun (s : Int) W (hW : AccAt (fun _ => True) W (.slice B n d) L) => abegin_run (fun _ => True) L i s f a _ W hL.out.2.2.2 (by rw [hfa]; exact ha) hW)
      have HE1 := Lib.hid (show beginE (a.seq + 2) f a = 68 from if_pos (.inl (by omega)))
      have HE2 := Lib.hid (show beginE a.seq f a = 68 from if_pos (.inl (by omega)))
      have q0 : (k : Int) < 4 := by omega
      clear ha hfa hF
      go_wp2_with fail
      refine (HFI.out _ hA.out).mono ?_
      rintro e W1 ⟨rfl, hb1⟩
      have HA1 := Lib.hid ((hA.out.below hb1).below (balloc (bref _) (.cells #[.int .i64 a.id, .int .i64 a.bal, .int .i64 a.seq] 34)))
      have HB1 := Lib.hid (balloc (bstep hB.out hb1) (.cells #[.int .i64 a.id, .int .i64 a.bal, .int .i64 a.seq] 34))
      have HX1 := Lib.hid (box3 W1 34 (.int .i64 a.id) (.int .i64 a.bal) (.int .i64 a.seq))
      clear hb1
      go_upto_region 8 with fail
      generalize W1.alloc (.cells #[.int .i64 a.id, .int .i64 a.bal, .int .i64 a.seq] 34) = W2 at *
      generalize W1.heap.size = ab at *
      obtain ⟨c0, c1, c2, _⟩ := HX1.out
      go_wp2_with fail
      refine (HBE.out (a.seq + 2) _ HA1.out).mono ?_
      rintro e W3 ⟨x1, rfl, hc1⟩
      rw [HE1.out]
      have HA3 := Lib.hid (HA1.out.below hc1.bel)
      have HB3 := Lib.hid (bstep HB1.out hc1.bel)
      have HX3 := Lib.hid (HX1.out.below hc1.bel)
      clear hc1 c0 c1 c2
      obtain ⟨c0, c1, c2, _⟩ := HX3.out
      go_wp2_with fail
      refine (HBE.out a.seq _ HA3.out).mono ?_
      rintro e W4 ⟨x2, rfl, hc2⟩
      rw [HE2.out]
      have HA4 := Lib.hid (HA3.out.below hc2.bel)
      have HB4 := Lib.hid (bstep HB3.out hc2.bel)
      have HX4 := Lib.hid (HX3.out.below hc2.bel)
      clear hc2 c0 c1 c2
      obtain ⟨c0, c1, c2, _⟩ := HX4.out
      go_wp2_with fail
      refine (HBE.out (a.seq + 1) _ HA4.out).mono ?_
      rintro e W5 ⟨x3, rfl, hc3⟩
      have HA5 := Lib.hid (HA4.out.below hc3.bel)
      have HB5 := Lib.hid (bstep HB4.out hc3.bel)
      have HX5 := Lib.hid (HX4.out.below hc3.bel)
      have HC3 := Lib.hid hc3
      clear hc3 c0 c1 c2
      obtain ⟨c0, c1, c2, _⟩ := HX5.out
      rcases (show a.bal < f ∨ f ≤ a.bal by omega) with hbl | hbl
      · rw [show beginE (a.seq + 1) f a = 66 by unfold beginE; rw [if_neg (by omega), if_neg (by omega), if_pos hbl]]
        have q1 : decide (a.bal < f) = true := decide_eq_true hbl
        clear hbl
        go_wp2_with fail
        refine (sane36 _).mono ?_
        rintro e W6 ⟨rfl, hb6⟩
        have HB6 := Lib.hid (bstep HB5.out hb6)
        clear hb6
        go_wp2_with fail
        go_ret
        exact ⟨rfl, HB6.out⟩
      · have hE : beginE (a.seq + 1) f a = 0 := by unfold beginE; rw [if_neg (by omega), if_neg (by omega), if_neg (by omega)]
        have HGD := Lib.hid (HC3.out.good hE)
        rw [hE]
        obtain ⟨D, d2, rfl, _, _⟩ := HGD.out.slice
        have hlen2 : (L.set (findA i L) (beginU (a.seq + 1) f a)).length = n := by rw [List.length_set]; exact hL.out.2.2.1
        rw [hlen2] at HGD ⊢
        have HL2 := Lib.hid (show (∀ (j : Nat) (x : Acc), (L.set (findA i L) (beginU (a.seq + 1) f a))[j]? = some x → x.id = (j : Int) + 1) ∧ (∀ (j : Nat) (x : Acc), (L.set (findA i L) (beginU (a.seq + 1) f a))[j]? = some x → x.seq ≤ 2 + ((k + 1 : Nat) : Int)) ∧ (L.set (findA i L) (beginU (a.seq + 1) f a)).length = n ∧ AccsOk (L.set (findA i L) (beginU (a.seq + 1) f a)) from by
          rw [HFA.out]
          have hFl : F < L.length := by rw [hL.out.2.2.1]; exact hF0
          refine ⟨fun j x hx => ?_, fun j x hx => ?_, by rw [List.length_set]; exact hL.out.2.2.1, hL.out.2.2.2.set HA.out ⟨(hL.out.2.2.2.each F a HA.out).i0, (hL.out.2.2.2.each F a HA.out).i1, by show 0 ≤ a.bal - f; omega, by show a.bal - f ≤ 1000000000000; omega, by show 0 ≤ a.seq + 1; omega, by show a.seq + 1 ≤ 1000000; omega⟩ rfl⟩
          · by_cases e : F = j
            · subst e
              rw [List.getElem?_set_self hFl] at hx
              cases hx
              exact hL.out.1 F a HA.out
            · rw [List.getElem?_set_ne e] at hx
              exact hL.out.1 j x hx
          · by_cases e : F = j
            · subst e
              rw [List.getElem?_set_self hFl] at hx
              cases hx
              show a.seq + 1 ≤ _
              omega
            · rw [List.getElem?_set_ne e] at hx
              have := hL.out.2.1 j x hx
              omega)
        have HG2 := Lib.hid (show AccAt (fun _ => True) W5 (.slice D n d2) (L.set (findA i L) (beginU (a.seq + 1) f a)) from HGD.out.imp (fun _ _ _ => trivial))
        have HF2 := Lib.hid (show ∀ W, AccAt (fun _ => True) W (.slice D n d2) (L.set (findA i L) (beginU (a.seq + 1) f a)) → Calls Try.prog 13 #[.slice D n d2, .int .i64 i] W fun e w' => e = .returned (.tuple #[.agg #[.int .i64 a.id, .int .i64 (a.bal - f), .int .i64 (a.seq + 1)], .bool true]) ∧ Below W.heap.size W w' from fun W hW => by
          have h1 := afind_run (fun _ => True) _ i _ W (by rw [hlen2]; omega) hW
          have h2 : findA i (L.set (findA i L) (beginU (a.seq + 1) f a)) = F := by
            rw [HFA.out]
            exact (findA_set (a := a) (a' := beginU (a.seq + 1) f a) HA.out rfl i).trans HFA.out
          rw [getA_at h2 (by rw [HFA.out]; exact List.getElem?_set_self (by rw [hL.out.2.2.1]; exact hF0)), show hasA i (L.set (findA i L) (beginU (a.seq + 1) f a)) = true by unfold hasA; rw [h2, hlen2]; exact decide_eq_true hF0] at h1
          exact h1)
        have HT1 := Lib.hid (fun W hW => atotal_run (fun _ => True) L (.slice B n d) W hL.out.2.2.2 hW)
        have HT2 := Lib.hid (fun W hW => atotal_run (fun _ => True) (L.set (findA i L) (beginU (a.seq + 1) f a)) (.slice D n d2) W HL2.out.2.2.2 hW)
        have hts : totA (L.set (findA i L) (beginU (a.seq + 1) f a)) = totA L - f := by
          rw [totA_set (by rw [HFA.out]; exact HA.out)]
          show totA L - a.bal + (a.bal - f) = _
          omega
        have htb := totA_bd L hL.out.2.2.2.each n
        rw [show L.take n = L by rw [← hL.out.2.2.1, List.take_length]] at htb
        rw [hts] at HT2
        obtain ⟨T, hT⟩ : ∃ T, totA L = T := ⟨_, rfl⟩
        rw [hT] at HT1 HT2 htb
        have htb1 : T ≤ 5 * 1000000000000 := by
          have : (n : Int) * 1000000000000 ≤ 5 * 1000000000000 := by omega
          omega
        have htb0 := htb.1
        clear htb hts hT hE HGD
        generalize L.set (findA i L) (beginU (a.seq + 1) f a) = L2 at *
        clear hlen2 HC3 HE1 HE2 HBE HFI
        go_wp2_with fail
        refine (HF2.out _ HG2.out).mono ?_
        rintro e W6 ⟨rfl, hb6⟩
        have HG6 := Lib.hid ((HG2.out.below hb6).below (balloc (bref _) (.cells #[.int .i64 a.id, .int .i64 (a.bal - f), .int .i64 (a.seq + 1)] 34)))
        have HA6 := Lib.hid ((HA5.out.below hb6).below (balloc (bref _) (.cells #[.int .i64 a.id, .int .i64 (a.bal - f), .int .i64 (a.seq + 1)] 34)))
        have HB6 := Lib.hid (balloc (bstep HB5.out hb6) (.cells #[.int .i64 a.id, .int .i64 (a.bal - f), .int .i64 (a.seq + 1)] 34))
        have HX6 := Lib.hid ((HX5.out.below hb6).alloc (.cells #[.int .i64 a.id, .int .i64 (a.bal - f), .int .i64 (a.seq + 1)] 34))
        have HY6 := Lib.hid (box3 W6 34 (.int .i64 a.id) (.int .i64 (a.bal - f)) (.int .i64 (a.seq + 1)))
        clear hb6 c0 c1 c2
        go_upto_region 16 with fail
        generalize W6.alloc (.cells #[.int .i64 a.id, .int .i64 (a.bal - f), .int .i64 (a.seq + 1)] 34) = W7 at *
        generalize W6.heap.size = bb at *
        obtain ⟨c0, c1, c2, _⟩ := HX6.out
        obtain ⟨y0, y1, y2, _⟩ := HY6.out
        go_wp2_with fail
        refine (HT2.out _ HG6.out).mono ?_
        rintro e W8 ⟨rfl, hb8⟩
        have HG8 := Lib.hid (HG6.out.below hb8)
        have HA8 := Lib.hid (HA6.out.below hb8)
        have HB8 := Lib.hid (bstep HB6.out hb8)
        clear hb8 c0 c1 c2 y0 y1 y2
        go_wp2_with fail
        refine (HT1.out _ HA8.out).mono ?_
        rintro e W9 ⟨rfl, hb9⟩
        have HG9 := Lib.hid (HG8.out.below hb9)
        have HB9 := Lib.hid (bstep HB8.out hb9)
        clear hb9
        go_wp2_with fail
        go_roundw
        case rel => exact ⟨k + 1, L2, D, d2, rfl, by go_num, by omega, HL2, HG9, HB9⟩
        case measure => simp [intOf]; omega
    · obtain rfl : k = 4 := by omega
      clear hlt
      go_wp2_with fail
      refine (sane36 _).mono ?_
      rintro e W6 ⟨rfl, hb6⟩
      have HB6 := Lib.hid (bstep hB.out hb6)
      clear hb6
      go_wp2_with fail
      go_ret
      exact ⟨rfl, HB6.out⟩

end Go.Proofs.Ytfmdnhhdjjndbaa
