/- The example of layer 42. -/
import Derived.Test.YtoceogdpkfcghaaDoorTrusted
import Derived.Test.YtoceogdpkfcghaaDoorPFlat
namespace Go.Proofs.YtoceogdpkfcghaaDoor
set_option linter.unusedVariables false
set_option linter.unusedSimpArgs false
open Go.RowKit

set_option maxRecDepth 100000 in
set_option maxHeartbeats 1000000 in
theorem verify_nil (w : World) : Calls Tryd.prog 15 #[.slice none 0 0, .int .u64 5, .int .u64 5] w fun e w' => e = .returned (.bool true) ∧ Below w.heap.size w w' := by
  go_enter Tryd.func15, Tryd.ntmps15
  go_wp2
  refine wp_loop_rounds 1 ?_
  rw [rounds_succ]
  go_wp2
  go_ret
  exact ⟨rfl, bref _⟩
theorem found7 {b : Int} (h : FoundOk 2 (.mk 2 (rangeI 3) []) [7, 7, 9] 3 (fun _ => false) b) : b = 7 := by
  have h7 := h.least 7 (by omega) ⟨0, by omega, rfl⟩ rfl (by decide +kernel)
  rcases h.good with h1 | ⟨⟨i, hi, hb⟩, _⟩
  · exact absurd h1 h7.1
  · match i, hi with
    | 0, _ | 1, _ => exact hb.symm
    | 2, _ =>
      have : (9 : Int) = b := hb
      omega

set_option maxRecDepth 100000 in
set_option maxHeartbeats 1000000 in
theorem sane42 (w : World) : Calls Tryd.prog 9 #[] w fun e w' => e = .returned (.bool true) ∧ Below w.heap.size w w' := by
  have HF := Lib.hid (fun b h => found7 (b := b) h)
  go_enter Tryd.func9, Tryd.ntmps9
  go_wp2_with fail
  have hba := balloc (bref w) (.cells #[.int .u64 7, .int .u64 7, .int .u64 9] 30)
  have HA := Lib.hid (show (w.alloc (.cells #[.int .u64 7, .int .u64 7, .int .u64 9] 30)).heap[w.heap.size]? = some (.cells #[.int .u64 7, .int .u64 7, .int .u64 9] 30 (0, 0)) from heap_alloc_new _ _)
  have HB := Lib.hid hba
  refine (pflat_run 3 2 _ (by omega)).mono ?_
  rintro e w2 ⟨v1, rfl, hT, hb2⟩
  have HB2 := Lib.hid (bstep HB.out hb2)
  have HA2 := Lib.hid ((hb2.block _ (by rw [alloc_sz]; omega)).trans HA.out)
  have HT := Lib.hid hT.up
  obtain ⟨A1, n1, c1, hv1⟩ : ∃ A n c, v1 = .slice A n c := by
    obtain ⟨_, A', n', ca, _, _, _, _, h2, _⟩ := hT.form
    exact ⟨A', n', ca, h2⟩
  subst hv1
  clear hT hb2 hba
  go_wp2_with fail
  refine (trusted_run _ 2 _ _ _ _ _ [7, 7, 9] 3 _ (by decide) (by decide) HT.out (by decide) (fun k hk => ⟨w.heap.size, 0, rfl, ?_⟩) (by decide)).mono ?_
  · rw [cell_of_row _ _ (0 + k) _ _ (0, 0) HA2.out]
    match k, hk with
    | 0, _ | 1, _ | 2, _ => rfl
  rintro e w3 ⟨⟨b, rfl, hf⟩, hb3⟩
  obtain rfl := HF.out b hf
  have HB3 := Lib.hid (bstep HB2.out hb3)
  clear hf hb3
  go_wp2_with fail
  refine (verify_nil _).mono ?_
  rintro e w4 ⟨rfl, hb4⟩
  have HB4 := Lib.hid (bstep HB3.out hb4)
  clear hb4
  go_wp2_with fail
  go_ret
  exact ⟨rfl, HB4.out⟩
end Go.Proofs.YtoceogdpkfcghaaDoor
