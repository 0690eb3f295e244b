/- The contract of the reference's Compare, on sets. -/
import Derived.Test.YtobdnepmjcbjeaaGreatB4
namespace Go.Proofs.YtobdnepmjcbjeaaGreat
set_option linter.unusedVariables false
set_option linter.unusedSimpArgs false
open Go.RowKit

def cmpR (s t : Nat) : Int := if keyC s < keyC t then -1 else if s = t then 0 else 1
theorem keyC_lt (s t : Nat) (hs : s < 1024) (ht : t < 1024) : keyC s < keyC t ↔ (popc s < popc t ∨ (popc s = popc t ∧ s < t)) := by
  unfold keyC
  omega
theorem cmpN_neg (s t : Nat) (hs : s < 1024) (ht : t < 1024) (h : keyC s < keyC t) : cmpN (s : Int) (t : Int) = -1 := by
  have h1 := (cmpN_cast s t hs ht).2 h
  have h2 : setB (s : Int) = true := setB_iff.2 ⟨by omega, by omega⟩
  have h3 : setB (t : Int) = true := setB_iff.2 ⟨by omega, by omega⟩
  revert h1
  unfold cmpN orI cmpI
  rw [h2, h3]
  simp only [if_true]
  split <;> (try split) <;> (try split) <;> (try split) <;> (try split) <;> omega

set_option maxHeartbeats 2000000 in
theorem rcompare_run (s t : Nat) (hs : s < 1024) (ht : t < 1024) (w : World) :
    Calls Tryz.prog 60 #[.int .i64 (s : Int), .int .i64 (t : Int)] w fun e w' => e = .returned (.int .i64 (cmpR s t)) ∧ w = w' := by
  have hsv := Lib.hid (show setB (s : Int) = true from setB_iff.2 ⟨by omega, by omega⟩)
  have htv := Lib.hid (show setB (t : Int) = true from setB_iff.2 ⟨by omega, by omega⟩)
  have hk := keyC_lt s t hs ht
  have HS := Lib.hid (fun W => rsetSize_run s hs W)
  have HT := Lib.hid (fun W => rsetSize_run t ht W)
  have hcr : cmpR s t = if keyC s < keyC t then -1 else if s = t then 0 else 1 := rfl
  have hps := popc_le s
  have hpt := popc_le t
  generalize cmpR s t = r at *
  generalize keyC s = ks at *
  generalize keyC t = kt at *
  have hst : s = t → popc s = popc t := fun h => by rw [h]
  generalize hpS : popc s = ps at *
  generalize hpT : popc t = pt at *
  clear hpS hpT
  rcases Nat.lt_trichotomy ps pt with h | h | h
  · obtain rfl : r = -1 := by rw [hcr, if_pos (hk.2 (.inl h))]
    clear hk hcr
    go_enter Tryz.func60, Tryz.ntmps60
    go_wp2_with fail
    refine (rsetValid_run _ _).mono ?_
    rintro e w2 ⟨rfl, rfl⟩
    rw [hsv.out]
    go_wp2_with fail
    refine (HS.out _).mono ?_
    rintro e w2 ⟨rfl, rfl⟩
    go_wp2_with fail
    refine (rsetValid_run _ _).mono ?_
    rintro e w2 ⟨rfl, rfl⟩
    rw [htv.out]
    go_wp2_with fail
    refine (HT.out _).mono ?_
    rintro e w2 ⟨rfl, rfl⟩
    go_wp2_with fail
    go_ret
    exact ⟨rfl, rfl⟩
  · subst h
    rcases Nat.lt_trichotomy s t with h1 | h1 | h1
    · obtain rfl : r = -1 := by rw [hcr, if_pos (hk.2 (.inr ⟨rfl, h1⟩))]
      clear hk hcr
      go_enter Tryz.func60, Tryz.ntmps60
      go_wp2_with fail
      refine (rsetValid_run _ _).mono ?_
      rintro e w2 ⟨rfl, rfl⟩
      rw [hsv.out]
      go_wp2_with fail
      refine (HS.out _).mono ?_
      rintro e w2 ⟨rfl, rfl⟩
      go_wp2_with fail
      refine (rsetValid_run _ _).mono ?_
      rintro e w2 ⟨rfl, rfl⟩
      rw [htv.out]
      go_wp2_with fail
      refine (HT.out _).mono ?_
      rintro e w2 ⟨rfl, rfl⟩
      go_wp2_with fail
      go_ret
      exact ⟨rfl, rfl⟩
    · obtain rfl : r = 0 := by rw [hcr, if_neg (fun h => by have := hk.1 h; omega), if_pos h1]
      clear hk hcr
      subst h1
      go_enter Tryz.func60, Tryz.ntmps60
      go_wp2_with fail
      refine (rsetValid_run _ _).mono ?_
      rintro e w2 ⟨rfl, rfl⟩
      rw [hsv.out]
      go_wp2_with fail
      refine (HS.out _).mono ?_
      rintro e w2 ⟨rfl, rfl⟩
      go_wp2_with fail
      refine (rsetValid_run _ _).mono ?_
      rintro e w2 ⟨rfl, rfl⟩
      rw [htv.out]
      go_wp2_with fail
      refine (HT.out _).mono ?_
      rintro e w2 ⟨rfl, rfl⟩
      go_wp2_with fail
      go_ret
      exact ⟨rfl, rfl⟩
    · obtain rfl : r = 1 := by rw [hcr, if_neg (fun h => by have := hk.1 h; omega), if_neg (by omega)]
      clear hk hcr
      go_enter Tryz.func60, Tryz.ntmps60
      go_wp2_with fail
      refine (rsetValid_run _ _).mono ?_
      rintro e w2 ⟨rfl, rfl⟩
      rw [hsv.out]
      go_wp2_with fail
      refine (HS.out _).mono ?_
      rintro e w2 ⟨rfl, rfl⟩
      go_wp2_with fail
      refine (rsetValid_run _ _).mono ?_
      rintro e w2 ⟨rfl, rfl⟩
      rw [htv.out]
      go_wp2_with fail
      refine (HT.out _).mono ?_
      rintro e w2 ⟨rfl, rfl⟩
      go_wp2_with fail
      go_ret
      exact ⟨rfl, rfl⟩
  · obtain rfl : r = 1 := by rw [hcr, if_neg (fun h1 => by have := hk.1 h1; omega), if_neg (fun h1 => by have := hst h1; omega)]
    clear hk hcr
    go_enter Tryz.func60, Tryz.ntmps60
    go_wp2_with fail
    refine (rsetValid_run _ _).mono ?_
    rintro e w2 ⟨rfl, rfl⟩
    rw [hsv.out]
    go_wp2_with fail
    refine (HS.out _).mono ?_
    rintro e w2 ⟨rfl, rfl⟩
    go_wp2_with fail
    refine (rsetValid_run _ _).mono ?_
    rintro e w2 ⟨rfl, rfl⟩
    rw [htv.out]
    go_wp2_with fail
    refine (HT.out _).mono ?_
    rintro e w2 ⟨rfl, rfl⟩
    go_wp2_with fail
    go_ret
    exact ⟨rfl, rfl⟩
end Go.Proofs.YtobdnepmjcbjeaaGreat
