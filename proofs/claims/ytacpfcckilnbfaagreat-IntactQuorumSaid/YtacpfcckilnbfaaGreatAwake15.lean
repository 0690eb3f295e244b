/- The example of layer 15. -/
import Derived.Test.YtacpfcckilnbfaaGreatB6
import Derived.Test.YtacpfcckilnbfaaGreatIntact
namespace Go.Proofs.YtacpfcckilnbfaaGreat
set_option linter.unusedVariables false
set_option linter.unusedSimpArgs false
open Go.RowKit

theorem all15 {L : List Nat} (h : AllIs 1 (foM 4) (foM 4) L) : L = [1, 15] := by
  refine asc_ext h.1 (by unfold Asc; decide +kernel) (fun b => ?_)
  rw [h.2.2 b]
  unfold GoodB
  rw [avB_iff, inB_iff (by rw [D3.delM_len]; decide), foM_len]
  constructor
  · rintro ⟨h1, hs, h2, h3⟩
    have h4 := fo14 ⟨b, h1⟩
    rw [h2, h3] at h4
    have h5 : b ∈ [0, 1, 2, 4, 8, 15] := of_decide_eq_true h4.symm
    have h6 := hs 0 (by decide)
    simp only [List.mem_cons, List.not_mem_nil, or_false] at h5
    rcases h5 with rfl | rfl | rfl | rfl | rfl | rfl <;> first | (simp; done) | (exact absurd h6 (by decide))
  · intro hb
    simp only [List.mem_cons, List.not_mem_nil, or_false] at hb
    have h1 : b < 16 := by omega
    have h4 := fo14 ⟨b, h1⟩
    have h5 : b ∈ [0, 1, 2, 4, 8, 15] := by rcases hb with rfl | rfl <;> simp
    rw [decide_eq_true h5, Bool.and_eq_true] at h4
    refine ⟨h1, fun k hk => ?_, h4.1, h4.2⟩
    have hk0 : k = 0 := by
      rcases k with _ | k
      · rfl
      · rw [Nat.testBit_succ] at hk; simp at hk
    subst hk0
    rcases hb with rfl | rfl <;> decide
theorem in15a : inB (D3.delM 1 (foM 4)) = true := by decide +kernel
theorem in15b : inB (D3.delM 3 (foM 4)) = false := by decide +kernel
theorem of15a {a : Nat} (h : OfIs 1 (foM 4) (foM 4) a) : a = 14 := by
  rcases h with ⟨h, _⟩ | ⟨_, L, hL, rfl⟩
  · exact absurd ((inB_iff (by rw [D3.delM_len]; decide)).2 in15a) h
  · rw [all15 hL]; decide +kernel
theorem of15b {a : Nat} (h : OfIs 3 (foM 4) (foM 4) a) : a = 0 := by
  rcases h with ⟨_, h⟩ | ⟨h, _⟩
  · exact h
  · have h2 := (inB_iff (by rw [D3.delM_len]; decide)).1 h
    rw [in15b] at h2; cases h2
theorem of15c {r : Nat} (h : ∃ a, OfIs 1 (foM 4) (foM 4) a ∧ r = outS (foM 4).length a) : r = 1 := by
  obtain ⟨a, h1, rfl⟩ := h
  rw [of15a h1]; decide +kernel

set_option maxRecDepth 100000 in
set_option maxHeartbeats 8000000 in
theorem awake15 (w : World) : Calls Tryz.prog 33 #[] w fun e w' => e = .returned (.bool true) ∧ Below w.heap.size w w' := by
  have hl7 : (foM 4).length ≤ 7 := by decide
  have HA := Lib.hid (fun a (h : OfIs 1 (foM 4) (foM 4) a) => of15a h)
  have HB := Lib.hid (fun a (h : OfIs 3 (foM 4) (foM 4) a) => of15b h)
  have HC := Lib.hid (fun r (h : ∃ a, OfIs 1 (foM 4) (foM 4) a ∧ r = outS (foM 4).length a) => of15c h)
  go_enter Tryz.func33, Tryz.ntmps33
  go_wp2_with fail
  refine (four15 _).mono ?_
  rintro e w1 ⟨v1, rfl, hm1, hb1⟩
  go_wp2_with fail
  refine (four15 _).mono ?_
  rintro e w2 ⟨v2, rfl, hm2, hb2⟩
  go_wp2_with fail
  refine (inof_run (fun _ => True) (fun _ => True) (foM 4) (foM 4) v1 v2 1 (by decide) _ hl7 (hm1.below hb2) hm2 foM_pair).mono ?_
  rintro e w3 ⟨⟨a, rfl, ha⟩, hb3⟩
  obtain rfl := HA.out a ha
  have HB3 := Lib.hid (bstep (bstep hb1 hb2) hb3)
  clear hm1 hb1 hm2 hb2 hb3 ha
  go_wp2_with fail
  refine (four15 _).mono ?_
  rintro e w4 ⟨v4, rfl, hm4, hb4⟩
  go_wp2_with fail
  refine (four15 _).mono ?_
  rintro e w5 ⟨v5, rfl, hm5, hb5⟩
  go_wp2_with fail
  refine (inof_run (fun _ => True) (fun _ => True) (foM 4) (foM 4) v4 v5 3 (by decide) _ hl7 (hm4.below hb5) hm5 foM_pair).mono ?_
  rintro e w6 ⟨⟨b, rfl, hb⟩, hb6⟩
  obtain rfl := HB.out b hb
  have HB6 := Lib.hid (bstep (bstep (bstep HB3.out hb4) hb5) hb6)
  clear hm4 hb4 hm5 hb5 hb6 hb
  go_wp2_with fail
  refine (four15 _).mono ?_
  rintro e w7 ⟨v7, rfl, hm7, hb7⟩
  go_wp2_with fail
  refine (four15 _).mono ?_
  rintro e w8 ⟨v8, rfl, hm8, hb8⟩
  go_wp2_with fail
  refine (inbef_run (fun _ => True) (fun _ => True) (foM 4) (foM 4) v7 v8 1 (by decide) _ hl7 (hm7.below hb8) hm8 foM_pair).mono ?_
  rintro e w9 ⟨⟨r, rfl, hr⟩, hb9⟩
  obtain rfl := HC.out r hr
  have HB9 := Lib.hid (bstep (bstep (bstep HB6.out hb7) hb8) hb9)
  clear hm7 hb7 hm8 hb8 hb9 hr
  go_wp2_with fail
  go_ret
  exact ⟨rfl, HB9.out⟩
end Go.Proofs.YtacpfcckilnbfaaGreat
