/- The walk of AccountsKeep: a payment from one account to another one keeps the total, giving and taking lead back, and a new account brings just its balance. -/
import Derived.Test.YtfmdnhhdjjndbaaSrcL
import Derived.Test.YtfmdnhhdjjndbaaA36c
import Derived.Test.YtfmdnhhdjjndbaaA36d
namespace Go.Proofs.Ytfmdnhhdjjndbaa
set_option linter.unusedVariables false
set_option linter.unusedSimpArgs false
open Go.RowKit

theorem getA_atK {L : List Acc} {i : Int} {k : Nat} {a : Acc} (h : findA i L = k) (ha : L[k]? = some a) : getA i L = a := by
  unfold getA
  rw [h, ha]
  rfl

theorem AccsOk.snoc {L : List Acc} (h : AccsOk L) (hl : L.length < 20) {x : Acc} (hx : AccG x) (hall : ∀ (k : Nat) (a : Acc), L[k]? = some a → a.id < x.id) : AccsOk (L ++ [x]) := by
  have hg : ∀ (k : Nat) (a : Acc), (L ++ [x])[k]? = some a → (k < L.length ∧ L[k]? = some a) ∨ (k = L.length ∧ a = x) := by
    intro k a ha
    rcases Nat.lt_or_ge k L.length with h1 | h1
    · rw [List.getElem?_append_left h1] at ha; exact .inl ⟨h1, ha⟩
    · rw [List.getElem?_append_right h1] at ha
      rcases hk : k - L.length with _ | j
      · rw [hk] at ha; exact .inr ⟨by omega, (Option.some.inj ha).symm⟩
      · rw [hk] at ha; simp at ha
  refine ⟨by rw [List.length_append]; simp; omega, fun k a ha => ?_, fun k a b ha hb => ?_⟩
  · rcases hg k a ha with ⟨_, h1⟩ | ⟨_, rfl⟩
    · exact h.each k a h1
    · exact hx
  · rcases hg k a ha with ⟨h0, h1⟩ | ⟨h0, rfl⟩
    · rcases hg _ b hb with ⟨_, h2⟩ | ⟨_, rfl⟩
      · exact h.asc k a b h1 h2
      · exact hall k a h1
    · rcases hg _ b hb with ⟨h2, _⟩ | ⟨h2, _⟩ <;> omega

theorem set_backA {L : List Acc} {F : Nat} {a x : Acc} (h : L[F]? = some a) : (L.set F x).set F a = L := by
  have hF : F < L.length := (List.getElem?_eq_some_iff.1 h).1
  rw [List.set_set]
  apply List.ext_getElem?
  intro k
  by_cases e : F = k
  · subst e
    rw [List.getElem?_set_self hF, h]
  · rw [List.getElem?_set_ne e]

theorem giveE_ok {n : Int} {a : Acc} (h0 : 0 ≤ a.bal) (h1 : a.bal ≤ 10000) (h2 : 0 ≤ n) (h3 : n ≤ 10000) : giveE n a = 0 := by
  show (if okI a.bal && okI n && okI (a.bal + n) then (0 : Int) else 65) = 0
  rw [okI_yes h0 (by omega), okI_yes h2 (by omega), okI_yes (by omega) (by omega)]
  rfl

theorem give_take (n : Int) (a : Acc) : giveU n (takeU n a) = a := by
  cases a with
  | mk x y z =>
    show Acc.mk x (y - n + n) z = Acc.mk x y z
    rw [Int.sub_add_cancel]

theorem led_accK (x0 x4 x5 x6 : Int) (A B C : Option Addr) (n c nl cl no co : Nat) (W : World) : Sem.run Try.prog (Instr.field 30 (.agg #[.int .i64 x0, .slice A n c, .slice B nl cl, .slice C no co, .int .i64 x4, .int .i64 x5, .int .u64 x6]) 1) W = .ok (.slice A n c) W := by kernel_rfl

set_option maxRecDepth 100000 in
set_option maxHeartbeats 8000000 in
theorem walkAccountsKeep (a0 : Option Addr) (len0 cap0 : Nat) (z0 : List Int) (a1 : Int) (w : World) (w0 : IsRow .i64 w a0 len0 cap0 z0) (w1 : (Lit.int .u16 a1).wf = true) :
    Calls Try.prog 5 #[.slice a0 len0 cap0, .int .u16 a1] w fun e w' => e = .returned (.bool true) ∧ Below w.heap.size w w' := by
  have HR := Lib.hid w0
  have hu : 0 ≤ a1 ∧ a1 ≤ 65535 := (show IntKind.u16.min ≤ a1 ∧ a1 ≤ IntKind.u16.max by simpa [Lit.wf] using w1)
  clear w0 w1
  have hfd := led_accK
  go_enter Try.func5, Try.ntmps5
  go_wp2_with fail
  refine (New_run _ _ _ _ _ HR.out).mono ?_
  rintro e v1 ⟨rfl, hs1, hb1⟩
  have HS1 := Lib.hid hs1
  have HB1 := Lib.hid hb1
  clear hs1 hb1
  go_wp2_with fail
  refine (Ledger_run _ _ HS1.out).mono ?_
  rintro e v2 ⟨g, va, vl, vo, rfl, hg⟩
  obtain ⟨A, c, B', cb, C', cc, hva, hvl, hvo, _⟩ := hg.at_.form
  subst hva
  subst hvl
  subst hvo
  have HG := Lib.hid hg
  have HB2 := Lib.hid (show Below w.heap.size w v2 from Below.grown HB1.out hg.gr HB1.out.size (fun j hj => by cases hj; exact Nat.le_refl _))
  obtain ⟨n, hn⟩ : ∃ n, g.accs.length = n := ⟨_, rfl⟩
  have hn1 := hg.n1
  have hn5 := hg.n5
  have HN := Lib.hid hn
  rw [hn] at hn1 hn5 ⊢
  clear hg hn
  unfold valG
  go_wp2_with fail
  refine (Range_run _ _ 1 (n : Int) (by omega) (by omega) (by omega) HG.out.src).mono ?_
  rintro e v3 ⟨ia, hia0, hia1, rfl, hs3, hg3⟩
  have HS3 := Lib.hid hs3
  have HG3 := Lib.hid hg3
  have HB3 := Lib.hid (show Below w.heap.size w v3 from Below.grown HB2.out hg3 HB2.out.size (fun j hj => by cases hj; exact Nat.le_refl _))
  clear hs3 hg3
  go_wp2_with fail
  refine (Range_run _ _ 1 (n : Int) (by omega) (by omega) (by omega) HS3.out).mono ?_
  rintro e v4 ⟨ib, hib0, hib1, rfl, hs4, hg4⟩
  have HB4 := Lib.hid (show Below w.heap.size w v4 from Below.grown HB3.out hg4 HB3.out.size (fun j hj => by cases hj; exact Nat.le_refl _))
  have HA0 := Lib.hid (show AccAt (fun _ => True) v4 (.slice A n c) g.accs from by
    have h1 := HG.out.at_.a
    rw [HN.out] at h1
    have h2 := h1.both HG3.out.size (fun k hk hp => HG3.out.block k hk (by have := HS1.out.lt; simp; omega)) (fun _ _ h => h)
    exact h2.both hg4.size (fun k hk hp => hg4.block k hk (by have := HS1.out.lt; simp; omega)) (fun _ _ _ => trivial))
  have HID0 := Lib.hid (show (∀ (k : Nat) (a : Acc), g.accs[k]? = some a → a.id = (k : Int) + 1) ∧ g.accs.length = n ∧ AccsOk g.accs from ⟨HG.out.acc.id, HN.out, HG.out.ok.accs⟩)
  have HBL := Lib.hid (show ∀ (k : Nat) (a : Acc), g.accs[k]? = some a → 0 ≤ a.bal ∧ a.bal ≤ 1000 from fun k a ha => HG.out.acc.b0 a (List.mem_of_getElem? ha))
  obtain ⟨mm, hf, hf0, hf1⟩ : ∃ f : Int, a1 % 1200 = f ∧ 0 ≤ f ∧ f < 1200 := ⟨_, rfl, by omega, by omega⟩
  generalize g.accs = L0 at *
  clear HS1 HB1 HG HN HS3 HG3 hs4 hg4 HB2 HB3
  go_wp2_with fail
  rw [hf]
  clear hf
  obtain ⟨F, hF, hF0⟩ : ∃ F : Nat, (F : Int) + 1 = ia ∧ F < n := ⟨(ia - 1).toNat, by omega, by omega⟩
  obtain ⟨a, ha⟩ : ∃ a, L0[F]? = some a := ⟨_, List.getElem?_eq_getElem (by rw [HID0.out.2.1]; exact hF0)⟩
  have hfa : findA ia L0 = F := findA_at ha (by rw [HID0.out.1 F a ha]; exact hF) (fun j b hj hb e => by rw [HID0.out.1 j b hb] at e; omega)
  obtain ⟨G, hG, hG0⟩ : ∃ F : Nat, (F : Int) + 1 = ib ∧ F < n := ⟨(ib - 1).toNat, by omega, by omega⟩
  have hb2 := HBL.out F a ha
  have HTK := Lib.hid (atake_run (fun _ => True) L0 ia mm a (.slice A n c) v4 hf0 (by omega) HID0.out.2.2 (by rw [hfa]; exact ha) HA0.out)
  refine HTK.out.mono ?_
  rintro e W1 ⟨x1, rfl, hc1⟩
  have HA1 := Lib.hid (HA0.out.below hc1.bel)
  have HB1 := Lib.hid (bstep HB4.out hc1.bel)
  rcases (show a.bal < mm ∨ mm ≤ a.bal by omega) with hbl | hbl
  · rw [show takeE mm a = 66 from if_pos hbl]
    have HFO := Lib.hid (show ∀ W, AccAt (fun _ => True) W (.slice A n c) L0 → Calls Try.prog 13 #[.slice A n c, .int .i64 ia] W fun e w' => e = .returned (.tuple #[.agg #[.int .i64 a.id, .int .i64 a.bal, .int .i64 a.seq], .bool true]) ∧ Below W.heap.size W w' from fun W hW => by
      have h1 := afind_run (fun _ => True) L0 ia (.slice A n c) W (by rw [HID0.out.2.1]; omega) hW
      rw [getA_atK hfa ha, show hasA ia L0 = true by unfold hasA; rw [hfa, HID0.out.2.1]; exact decide_eq_true hF0] at h1
      exact h1)
    have q1 : decide (a.bal < mm) = true := decide_eq_true hbl
    clear hbl ha hfa hF hG HTK hc1
    go_wp2_with fail
    refine (HFO.out _ HA1.out).mono ?_
    rintro e W2 ⟨rfl, hb2'⟩
    have HB2 := Lib.hid (balloc (bstep HB1.out hb2') (.cells #[.int .i64 a.id, .int .i64 a.bal, .int .i64 a.seq] 34))
    have HX2 := Lib.hid (box3 W2 34 (.int .i64 a.id) (.int .i64 a.bal) (.int .i64 a.seq))
    clear hb2'
    go_upto_region 7 with fail
    generalize W2.alloc (.cells #[.int .i64 a.id, .int .i64 a.bal, .int .i64 a.seq] 34) = W3 at *
    generalize W2.heap.size = ab at *
    obtain ⟨c0, c1, c2, _⟩ := HX2.out
    go_wp2_with fail
    refine (sane36 _).mono ?_
    rintro e W6 ⟨rfl, hb6⟩
    have HB6 := Lib.hid (bstep HB2.out hb6)
    clear hb6
    go_wp2_with fail
    go_ret
    exact ⟨rfl, HB6.out⟩
  · have hE : takeE mm a = 0 := if_neg (by omega)
    have HGD := Lib.hid (hc1.good hE)
    rw [hE]
    obtain ⟨D, d2, rfl, _, _⟩ := HGD.out.slice
    have hL := HID0.out.2.1
    have hLo := HID0.out.2.2
    have hFl : F < L0.length := by rw [hL]; exact hF0
    have hG1 := hLo.each F a ha
    have hXo : AccsOk (L0.set F (takeU mm a)) := hLo.set ha ⟨hG1.i0, hG1.i1, by show 0 ≤ a.bal - mm; omega, by show a.bal - mm ≤ 1000000000000; omega, hG1.s0, hG1.s1⟩ rfl
    have hXF : (L0.set F (takeU mm a))[F]? = some (takeU mm a) := List.getElem?_set_self hFl
    have hXfa : findA ia (L0.set F (takeU mm a)) = F := (findA_set (a := a) (a' := takeU mm a) ha rfl ia).trans hfa
    obtain ⟨b, hb⟩ : ∃ b, (L0.set F (takeU mm a))[G]? = some b := ⟨_, List.getElem?_eq_getElem (by rw [List.length_set, hL]; exact hG0)⟩
    have hbid : b.id = ib ∧ 0 ≤ b.bal ∧ b.bal ≤ 1000 := by
      by_cases e : F = G
      · subst e
        rw [hXF] at hb
        cases hb
        refine ⟨?_, ?_, ?_⟩
        · show a.id = ib
          rw [HID0.out.1 F a ha]; exact hG
        · show 0 ≤ a.bal - mm; omega
        · show a.bal - mm ≤ 1000; omega
      · rw [List.getElem?_set_ne e] at hb
        have h1 := HBL.out G b hb
        exact ⟨by rw [HID0.out.1 G b hb]; exact hG, h1.1, h1.2⟩
    have hXfb : findA ib (L0.set F (takeU mm a)) = G := by
      have h2 : ∃ b0, L0[G]? = some b0 := ⟨_, List.getElem?_eq_getElem (by rw [hL]; exact hG0)⟩
      obtain ⟨b0, hb0⟩ := h2
      have h1 : findA ib L0 = G := findA_at hb0 (by rw [HID0.out.1 G b0 hb0]; exact hG) (fun j b hj hb e => by rw [HID0.out.1 j b hb] at e; omega)
      exact (findA_set (a := a) (a' := takeU mm a) ha rfl ib).trans h1
    have hE1 : giveE mm b = 0 := giveE_ok hbid.2.1 (by omega) hf0 (by omega)
    have hE2 : giveE mm (takeU mm a) = 0 := giveE_ok (show 0 ≤ a.bal - mm by omega) (show a.bal - mm ≤ 10000 by omega) hf0 (by omega)
    have hGb := hXo.each G b hb
    have hYo : AccsOk ((L0.set F (takeU mm a)).set G (giveU mm b)) := hXo.set hb ⟨hGb.i0, hGb.i1, by show 0 ≤ b.bal + mm; omega, by show b.bal + mm ≤ 1000000000000; omega, hGb.s0, hGb.s1⟩ rfl
    have hYt : totA ((L0.set F (takeU mm a)).set G (giveU mm b)) = totA L0 := by
      rw [totA_set hb, totA_set ha]
      show totA L0 - a.bal + (a.bal - mm) - b.bal + (b.bal + mm) = _
      omega
    have hall : ∀ (k : Nat) (a : Acc), L0[k]? = some a → a.id < 500 := fun k a ha => by
      have h1 := HID0.out.1 k a ha
      have h2 := (List.getElem?_eq_some_iff.1 ha).1
      rw [hL] at h2
      omega
    have hMo : AccsOk (L0 ++ [⟨500, mm, 0⟩]) := hLo.snoc (by rw [hL]; omega) ⟨by show (1 : Int) ≤ 500; omega, by show (500 : Int) ≤ 1000; omega, hf0, by show mm ≤ 1000000000000; omega, by show (0 : Int) ≤ 0; omega, by show (0 : Int) ≤ 1000000; omega⟩ hall
    have hMt : totA (L0 ++ [(⟨500, mm, 0⟩ : Acc)]) = totA L0 + mm := by
      rw [totA_app]
      show totA L0 + (mm + 0) = _
      omega
    have htb := totA_bd L0 hLo.each n
    rw [show L0.take n = L0 by rw [← hL, List.take_length]] at htb
    have hK : (L0.set F (takeU mm a)).set F (giveU mm (takeU mm a)) = L0 := by rw [give_take]; exact set_backA ha
    have HV1 := Lib.hid (fun W hW => agive_run (fun _ => True) (L0.set F (takeU mm a)) ib mm b (.slice D (L0.set (findA ia L0) (takeU mm a)).length d2) W hf0 (by omega) hXo (by rw [hXfb]; exact hb) hW)
    have HV2 := Lib.hid (fun W hW => agive_run (fun _ => True) (L0.set F (takeU mm a)) ia mm (takeU mm a) (.slice D (L0.set (findA ia L0) (takeU mm a)).length d2) W hf0 (by omega) hXo (by rw [hXfa]; exact hXF) hW)
    rw [hXfb, hE1] at HV1
    rw [hXfa, hE2, hK] at HV2
    have HCR := Lib.hid (fun W hW => acreate_run (fun _ => True) L0 500 mm (.slice A n c) W hLo (by rw [hL]; omega) (by rw [hL]; omega) (by omega) (by omega) hf0 (by omega) hall hW)
    have HTY := Lib.hid (fun P v W hW => atotal_run P ((L0.set F (takeU mm a)).set G (giveU mm b)) v W hYo hW)
    have HTL := Lib.hid (fun W hW => atotal_run (fun _ => True) L0 (.slice A n c) W hLo hW)
    have HTM := Lib.hid (fun P v W hW => atotal_run P (L0 ++ [⟨500, mm, 0⟩]) v W hMo hW)
    have HCM := Lib.hid (fun P v W hW => acheck_run P (L0 ++ [⟨500, mm, 0⟩]) v W hMo hW)
    rw [hYt] at HTY
    rw [hMt] at HTM
    obtain ⟨T, hT⟩ : ∃ T, totA L0 = T := ⟨_, rfl⟩
    rw [hT] at HTY HTL HTM htb
    have htb0 := htb.1
    have htb1 : T ≤ 5 * 1000000000000 := by
      have : (n : Int) * 1000000000000 ≤ 5 * 1000000000000 := by omega
      omega
    rw [hfa] at HGD HV1 HV2 ⊢
    have HG1 := Lib.hid (show AccAt (fun _ => True) W1 (.slice D (L0.set F (takeU mm a)).length d2) (L0.set F (takeU mm a)) from HGD.out.imp (fun _ _ _ => trivial))
    have HLN := Lib.hid (show (L0.set F (takeU mm a)).length = n by rw [List.length_set]; exact hL)
    rw [HLN.out] at HG1 HV1 HV2 ⊢
    have hl20 : L0.length ≤ 1000 := by rw [hL]; omega
    have HSM := Lib.hid (fun P v W hW hW2 => same36_run P (fun _ => True) L0 v (.slice A n c) W hl20 hW hW2)
    clear htb hT hYt hMt hK hYo hMo hXo hLo hall hGb hE1 hE2 hXfa hXfb hbid hXF hG1 hL hE hfa ha hb HTK hc1 HGD HLN hFl hl20 hF hG hb2
    generalize (L0.set F (takeU mm a)).set G (giveU mm b) = Y at *
    generalize L0.set F (takeU mm a) = X at *
    go_wp2_with fail
    refine (HV1.out _ HG1.out).mono ?_
    rintro e W2 ⟨vy, rfl, hc2⟩
    have HY2 := Lib.hid (hc2.good rfl)
    have HA2 := Lib.hid (HA1.out.below hc2.bel)
    have HG2 := Lib.hid (HG1.out.below hc2.bel)
    have HB2 := Lib.hid (bstep HB1.out hc2.bel)
    clear hc2
    go_wp2_with fail
    refine (HV2.out _ HG2.out).mono ?_
    rintro e W3 ⟨vk, rfl, hc3⟩
    have HK3 := Lib.hid (hc3.good rfl)
    have HY3 := Lib.hid (HY2.out.below hc3.bel)
    have HA3 := Lib.hid (HA2.out.below hc3.bel)
    have HB3 := Lib.hid (bstep HB2.out hc3.bel)
    clear hc3
    go_wp2_with fail
    refine (HCR.out _ HA3.out).mono ?_
    rintro e W4 ⟨vm, rfl, hc4⟩
    have HM4 := Lib.hid (hc4.good rfl)
    have HK4 := Lib.hid (HK3.out.below hc4.bel)
    have HY4 := Lib.hid (HY3.out.below hc4.bel)
    have HA4 := Lib.hid (HA3.out.below hc4.bel)
    have HB4 := Lib.hid (bstep HB3.out hc4.bel)
    clear hc4
    go_wp2_with fail
    refine (HTY.out _ _ _ HY4.out).mono ?_
    rintro e W5 ⟨rfl, hb5⟩
    have HM5 := Lib.hid (HM4.out.below hb5)
    have HK5 := Lib.hid (HK4.out.below hb5)
    have HA5 := Lib.hid (HA4.out.below hb5)
    have HB5 := Lib.hid (bstep HB4.out hb5)
    clear hb5
    go_wp2_with fail
    refine (HTL.out _ HA5.out).mono ?_
    rintro e W6 ⟨rfl, hb6⟩
    have HM6 := Lib.hid (HM5.out.below hb6)
    have HK6 := Lib.hid (HK5.out.below hb6)
    have HA6 := Lib.hid (HA5.out.below hb6)
    have HB6 := Lib.hid (bstep HB5.out hb6)
    clear hb6
    go_wp2_with fail
    refine (HSM.out _ _ _ HK6.out HA6.out).mono ?_
    rintro e W7 ⟨rfl, hb7⟩
    have HM7 := Lib.hid (HM6.out.below hb7)
    have HA7 := Lib.hid (HA6.out.below hb7)
    have HB7 := Lib.hid (bstep HB6.out hb7)
    clear hb7
    go_wp2_with fail
    refine (HTM.out _ _ _ HM7.out).mono ?_
    rintro e W8 ⟨rfl, hb8⟩
    have HM8 := Lib.hid (HM7.out.below hb8)
    have HA8 := Lib.hid (HA7.out.below hb8)
    have HB8 := Lib.hid (bstep HB7.out hb8)
    clear hb8
    go_wp2_with fail
    refine (HTL.out _ HA8.out).mono ?_
    rintro e W9 ⟨rfl, hb9⟩
    have HM9 := Lib.hid (HM8.out.below hb9)
    have HB9 := Lib.hid (bstep HB8.out hb9)
    clear hb9
    go_wp2_with fail
    refine (HCM.out _ _ _ HM9.out).mono ?_
    rintro e W10 ⟨rfl, hb10⟩
    have HB10 := Lib.hid (bstep HB9.out hb10)
    clear hb10
    go_wp2_with fail
    refine (sane36 _).mono ?_
    rintro e W11 ⟨rfl, hb11⟩
    have HB11 := Lib.hid (bstep HB10.out hb11)
    clear hb11
    go_wp2_with fail
    go_ret
    exact ⟨rfl, HB11.out⟩

end Go.Proofs.Ytfmdnhhdjjndbaa
