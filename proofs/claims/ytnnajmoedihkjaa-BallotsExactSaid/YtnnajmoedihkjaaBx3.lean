/- Lowest of both packages at any ballots. -/
import Derived.Test.YtnnajmoedihkjaaBx2
namespace Go.Proofs.Ytnnajmoedihkjaa
set_option linter.unusedVariables false
set_option linter.unusedSimpArgs false
open Go.RowKit

def stX (V : ByteArray) (c : Int) (B : ByteArray) (n : Int) : Int := if validX c B && !compX B V then (if abX c B (max n c) V then max n c + 1 else max n c) else n
def sAt (V : ByteArray) (n c : Int) (B : ByteArray) (d : Int) (C : ByteArray) : Nat → Int
  | 0 => max n 1
  | 1 => stX V c B (max n 1)
  | _ => stX V d C (stX V c B (max n 1))
theorem validX_of {c : Int} {B : ByteArray} (h : validX c B = true) : 1 ≤ c ∧ c ≤ 1000000 := by
  unfold validX at h
  simp at h
  omega
theorem abX_le {c n : Int} {B V : ByteArray} (h : abX c B n V = true) : n ≤ c := by
  unfold abX lessX at h
  simp only [Bool.and_eq_true] at h
  have h3 := h.2.2
  split at h3
  · omega
  · have := of_decide_eq_true h3
    omega
theorem abX_gt {c n : Int} {B V : ByteArray} (h : c < n) : abX c B n V = false := by
  cases hq : abX c B n V
  · rfl
  · have := abX_le hq
    omega
theorem abX_lt {c n : Int} {B V : ByteArray} (hv : validX c B = true) (hc : compX B V = false) (h : n < c) : abX c B n V = true := by
  have h1 := validX_of hv
  have hz : zeroX c B = false := by
    unfold zeroX
    rw [show (c == 0) = false by simp; omega]
    rfl
  unfold abX lessX
  rw [hz, hc, if_neg (by omega), decide_eq_true h]
  rfl
theorem abX_comp {c n : Int} {B V : ByteArray} (hc : compX B V = true) : abX c B n V = false := by
  unfold abX
  rw [hc]
  simp
theorem stX_ref (V : ByteArray) (c : Int) (B : ByteArray) (n : Int) : stX V c B n = if validX c B && abX c B n V then (if abX c B c V then c + 1 else c) else n := by
  unfold stX
  cases hv : validX c B
  · rfl
  · cases hc : compX B V
    · rcases Int.lt_trichotomy n c with h | h | h
      · rw [abX_lt hv hc h, show max n c = c by omega]
        rfl
      · subst h
        rw [show max n n = n by omega]
        cases abX n B n V <;> rfl
      · rw [abX_gt h, show max n c = n by omega, abX_gt h]
        rfl
    · rw [abX_comp (n := n) hc]
      rfl
theorem stX_bd (V : ByteArray) (c : Int) (B : ByteArray) (n : Int) (h0 : 1 ≤ n) (h1 : n ≤ 9223372036854775807) : 1 ≤ stX V c B n ∧ stX V c B n ≤ 9223372036854775807 := by
  unfold stX
  split
  · rename_i h
    have hv := validX_of (c := c) (B := B) (by simp at h; exact h.1)
    split
    · rename_i h2
      have := abX_le h2
      omega
    · omega
  · omega
theorem sAt_bd (V : ByteArray) (n c : Int) (B : ByteArray) (d : Int) (C : ByteArray) (h1 : n ≤ 9223372036854775807) (k : Nat) : 1 ≤ sAt V n c B d C k ∧ sAt V n c B d C k ≤ 9223372036854775807 := by
  have a := stX_bd V c B (max n 1) (by omega) (by omega)
  match k with
  | 0 => show 1 ≤ max n 1 ∧ _; exact ⟨by omega, by show max n 1 ≤ _; omega⟩
  | 1 => exact a
  | k + 2 => exact stX_bd V d C _ a.1 a.2

set_option maxRecDepth 100000 in
set_option maxHeartbeats 8000000 in
theorem lowest_s_ge (V : ByteArray) (n c : Int) (B : ByteArray) (d : Int) (C : ByteArray) (w : World) (hn : 1 ≤ n) (hn1 : n ≤ 9223372036854775807) :
    Calls Try.prog 29 #[.string V, .int .i64 n, .agg #[.int .i64 c, .string B], .agg #[.int .i64 d, .string C]] w fun e w' => e = .returned (.int .i64 (sAt V n c B d C 2)) ∧ Below w.heap.size w w' := by
  have HBD := Lib.hid (fun k => sAt_bd V n c B d C hn1 k)
  have H0 := Lib.hid (show sAt V n c B d C 0 = n by show max n 1 = _; omega)
  have HB0 := Lib.hid (balloc (balloc (bref w) (.cells #[.int .i64 c, .string B] 25)) (.cells #[.int .i64 d, .string C] 25))
  have HIX := Lib.hid (show ∀ k : Nat, k < 2 → ∃ (c1 : Int) (B1 : ByteArray), (∀ W, (Instr.index 62 (.agg #[.int .i64 c, .string B, .int .i64 d, .string C]) (.int .i64 (k : Int))).run Try.prog W = .ok (.agg #[.int .i64 c1, .string B1]) W) ∧ sAt V n c B d C (k + 1) = stX V c1 B1 (sAt V n c B d C k) from fun k hk => by
    match k, hk with
    | 0, _ => exact ⟨c, B, fun _ => by kernel_rfl, rfl⟩
    | 1, _ => exact ⟨d, C, fun _ => by kernel_rfl, rfl⟩)
  generalize sAt V n c B d C = sa at *
  go_enter Try.func29, Try.ntmps29
  go_wp2_with fail
  go_loopw [9, 17] (fun u t W => ∃ (k : Nat) (m : Int), k ≤ 2 ∧ t = .int .i64 k ∧ u = .int .i64 m ∧ Hid (sa k = m) ∧ Hid (Below w.heap.size w W)) (fun _ t _ => 2 - (intOf t).toNat)
  case atStart => exact ⟨0, _, by omega, rfl, rfl, Lib.hid H0.out, HB0⟩
  case round =>
    obtain ⟨k, m, hk, rfl, rfl, hm, hB⟩ := hrel
    have hm0 : 1 ≤ m ∧ m ≤ 9223372036854775807 := by rw [← hm.out]; exact HBD.out k
    obtain ⟨hm0, hm1⟩ := hm0
    by_cases hlt : k < 2
    · obtain ⟨c1, B1, hidx, hst⟩ := HIX.out k hlt
      rw [hm.out] at hst
      have HST := Lib.hid hst
      have HX1 := Lib.hid (BalX.new wr c1 B1)
      have HB1 := Lib.hid (balloc hB.out (.cells #[.int .i64 c1, .string B1] 25))
      have HVA := Lib.hid (fun W => valid_s c1 B1 W)
      clear hst
      go_upto_region 5 with fail
      generalize wr.alloc (.cells #[.int .i64 c1, .string B1] 25) = W1 at *
      generalize wr.heap.size = xb at *
      clear hidx
      obtain ⟨x0, x1⟩ := HX1.out.cs
      rcases (show validX c1 B1 = false ∨ validX c1 B1 = true by cases validX c1 B1 <;> simp) with hv | hv
      · have HR := Lib.hid (show sa (k + 1) = m by rw [HST.out]; unfold stX; rw [hv]; rfl)
        rw [hv] at HVA
        clear hv
        go_wp2_with fail
        refine (HVA.out _).mono ?_
        rintro e W2 ⟨rfl, hb2⟩
        have HB2 := Lib.hid (bstep HB1.out hb2)
        clear hb2 x0 x1
        go_wp2_with fail
        go_roundw
        case rel => exact ⟨k + 1, m, by omega, by go_num, by first | rfl | (congr 1; omega), Lib.hid HR.out, HB2⟩
        case measure => simp [intOf]; omega
      · have hvb := validX_of hv
        rw [hv] at HVA
        rcases (show compX B1 V = true ∨ compX B1 V = false by cases compX B1 V <;> simp) with hc | hc
        · have HR := Lib.hid (show sa (k + 1) = m by rw [HST.out]; unfold stX; rw [hv, hc]; rfl)
          have q1 : (B1.toList == V.toList) = true := hc
          clear hc hv
          have Q1 := Lib.hid q1
          clear q1
          go_wp2_with fail
          refine (HVA.out _).mono ?_
          rintro e W2 ⟨rfl, hb2⟩
          have HX2 := Lib.hid (HX1.out.below hb2)
          have HB2 := Lib.hid (bstep HB1.out hb2)
          clear hb2 x0 x1
          obtain ⟨x0, x1⟩ := HX2.out.cs
          have q1 := Q1.out
          go_wp2_with fail
          go_roundw
          case rel => exact ⟨k + 1, m, by omega, by go_num, by first | rfl | (congr 1; omega), Lib.hid HR.out, HB2⟩
          case measure => simp [intOf]; omega
        · have Q1 := Lib.hid (show (B1.toList == V.toList) = false from hc)
          rcases (show m < c1 ∨ c1 ≤ m by omega) with hmc | hmc
          · have hmx : max m c1 = c1 := by omega
            have HA := Lib.hid (fun W => ab_s c1 B1 c1 V W)
            rcases (show abX c1 B1 c1 V = true ∨ abX c1 B1 c1 V = false by cases abX c1 B1 c1 V <;> simp) with ha | ha
            · have HR := Lib.hid (show sa (k + 1) = c1 + 1 by rw [HST.out]; unfold stX; rw [hv, hc, hmx, ha]; rfl)
              have hle := abX_le ha
              rw [ha] at HA
              clear hv hc hmx ha
              go_wp2_with fail
              refine (HVA.out _).mono ?_
              rintro e W2 ⟨rfl, hb2⟩
              have HX2 := Lib.hid (HX1.out.below hb2)
              have HB2 := Lib.hid (bstep HB1.out hb2)
              clear hb2 x0 x1
              obtain ⟨x0, x1⟩ := HX2.out.cs
              have q1 := Q1.out
              go_wp2_with fail
              refine (HA.out _).mono ?_
              rintro e W3 ⟨rfl, hb2⟩
              have HX3 := Lib.hid (HX2.out.below hb2)
              have HB3 := Lib.hid (bstep HB2.out hb2)
              clear hb2 x0 x1
              obtain ⟨x0, x1⟩ := HX3.out.cs
              go_wp2_with fail
              go_roundw
              case rel => exact ⟨k + 1, c1 + 1, by omega, by go_num, by first | rfl | (congr 1; omega), Lib.hid HR.out, HB3⟩
              case measure => simp [intOf]; omega
            · have HR := Lib.hid (show sa (k + 1) = c1 by rw [HST.out]; unfold stX; rw [hv, hc, hmx, ha]; rfl)
              have hle := hvb.1
              rw [ha] at HA
              clear hv hc hmx ha
              go_wp2_with fail
              refine (HVA.out _).mono ?_
              rintro e W2 ⟨rfl, hb2⟩
              have HX2 := Lib.hid (HX1.out.below hb2)
              have HB2 := Lib.hid (bstep HB1.out hb2)
              clear hb2 x0 x1
              obtain ⟨x0, x1⟩ := HX2.out.cs
              have q1 := Q1.out
              go_wp2_with fail
              refine (HA.out _).mono ?_
              rintro e W3 ⟨rfl, hb2⟩
              have HX3 := Lib.hid (HX2.out.below hb2)
              have HB3 := Lib.hid (bstep HB2.out hb2)
              clear hb2 x0 x1
              obtain ⟨x0, x1⟩ := HX3.out.cs
              go_wp2_with fail
              go_roundw
              case rel => exact ⟨k + 1, c1, by omega, by go_num, by first | rfl | (congr 1; omega), Lib.hid HR.out, HB3⟩
              case measure => simp [intOf]; omega
          · have hmx : max m c1 = m := by omega
            have HA := Lib.hid (fun W => ab_s c1 B1 m V W)
            rcases (show abX c1 B1 m V = true ∨ abX c1 B1 m V = false by cases abX c1 B1 m V <;> simp) with ha | ha
            · have HR := Lib.hid (show sa (k + 1) = m + 1 by rw [HST.out]; unfold stX; rw [hv, hc, hmx, ha]; rfl)
              have hle := abX_le ha
              rw [ha] at HA
              clear hv hc hmx ha
              go_wp2_with fail
              refine (HVA.out _).mono ?_
              rintro e W2 ⟨rfl, hb2⟩
              have HX2 := Lib.hid (HX1.out.below hb2)
              have HB2 := Lib.hid (bstep HB1.out hb2)
              clear hb2 x0 x1
              obtain ⟨x0, x1⟩ := HX2.out.cs
              have q1 := Q1.out
              go_wp2_with fail
              refine (HA.out _).mono ?_
              rintro e W3 ⟨rfl, hb2⟩
              have HX3 := Lib.hid (HX2.out.below hb2)
              have HB3 := Lib.hid (bstep HB2.out hb2)
              clear hb2 x0 x1
              obtain ⟨x0, x1⟩ := HX3.out.cs
              go_wp2_with fail
              go_roundw
              case rel => exact ⟨k + 1, m + 1, by omega, by go_num, by first | rfl | (congr 1; omega), Lib.hid HR.out, HB3⟩
              case measure => simp [intOf]; omega
            · have HR := Lib.hid (show sa (k + 1) = m by rw [HST.out]; unfold stX; rw [hv, hc, hmx, ha]; rfl)
              have hle := hvb.1
              rw [ha] at HA
              clear hv hc hmx ha
              go_wp2_with fail
              refine (HVA.out _).mono ?_
              rintro e W2 ⟨rfl, hb2⟩
              have HX2 := Lib.hid (HX1.out.below hb2)
              have HB2 := Lib.hid (bstep HB1.out hb2)
              clear hb2 x0 x1
              obtain ⟨x0, x1⟩ := HX2.out.cs
              have q1 := Q1.out
              go_wp2_with fail
              refine (HA.out _).mono ?_
              rintro e W3 ⟨rfl, hb2⟩
              have HX3 := Lib.hid (HX2.out.below hb2)
              have HB3 := Lib.hid (bstep HB2.out hb2)
              clear hb2 x0 x1
              obtain ⟨x0, x1⟩ := HX3.out.cs
              go_wp2_with fail
              go_roundw
              case rel => exact ⟨k + 1, m, by omega, by go_num, by first | rfl | (congr 1; omega), Lib.hid HR.out, HB3⟩
              case measure => simp [intOf]; omega
    · obtain rfl : 2 = k := by omega
      go_wp2_with fail
      go_ret
      exact ⟨by rw [hm.out]; rfl, hB.out⟩

set_option maxRecDepth 100000 in
set_option maxHeartbeats 8000000 in
theorem lowest_s_lt (V : ByteArray) (n c : Int) (B : ByteArray) (d : Int) (C : ByteArray) (w : World) (hn : n < 1) (hn1 : n ≤ 9223372036854775807) :
    Calls Try.prog 29 #[.string V, .int .i64 n, .agg #[.int .i64 c, .string B], .agg #[.int .i64 d, .string C]] w fun e w' => e = .returned (.int .i64 (sAt V n c B d C 2)) ∧ Below w.heap.size w w' := by
  have HBD := Lib.hid (fun k => sAt_bd V n c B d C hn1 k)
  have H0 := Lib.hid (show sAt V n c B d C 0 = 1 by show max n 1 = _; omega)
  have HB0 := Lib.hid (balloc (balloc (bref w) (.cells #[.int .i64 c, .string B] 25)) (.cells #[.int .i64 d, .string C] 25))
  have HIX := Lib.hid (show ∀ k : Nat, k < 2 → ∃ (c1 : Int) (B1 : ByteArray), (∀ W, (Instr.index 62 (.agg #[.int .i64 c, .string B, .int .i64 d, .string C]) (.int .i64 (k : Int))).run Try.prog W = .ok (.agg #[.int .i64 c1, .string B1]) W) ∧ sAt V n c B d C (k + 1) = stX V c1 B1 (sAt V n c B d C k) from fun k hk => by
    match k, hk with
    | 0, _ => exact ⟨c, B, fun _ => by kernel_rfl, rfl⟩
    | 1, _ => exact ⟨d, C, fun _ => by kernel_rfl, rfl⟩)
  generalize sAt V n c B d C = sa at *
  go_enter Try.func29, Try.ntmps29
  go_wp2_with fail
  go_loopw [9, 17] (fun u t W => ∃ (k : Nat) (m : Int), k ≤ 2 ∧ t = .int .i64 k ∧ u = .int .i64 m ∧ Hid (sa k = m) ∧ Hid (Below w.heap.size w W)) (fun _ t _ => 2 - (intOf t).toNat)
  case atStart => exact ⟨0, _, by omega, rfl, rfl, Lib.hid H0.out, HB0⟩
  case round =>
    obtain ⟨k, m, hk, rfl, rfl, hm, hB⟩ := hrel
    have hm0 : 1 ≤ m ∧ m ≤ 9223372036854775807 := by rw [← hm.out]; exact HBD.out k
    obtain ⟨hm0, hm1⟩ := hm0
    by_cases hlt : k < 2
    · obtain ⟨c1, B1, hidx, hst⟩ := HIX.out k hlt
      rw [hm.out] at hst
      have HST := Lib.hid hst
      have HX1 := Lib.hid (BalX.new wr c1 B1)
      have HB1 := Lib.hid (balloc hB.out (.cells #[.int .i64 c1, .string B1] 25))
      have HVA := Lib.hid (fun W => valid_s c1 B1 W)
      clear hst
      go_upto_region 5 with fail
      generalize wr.alloc (.cells #[.int .i64 c1, .string B1] 25) = W1 at *
      generalize wr.heap.size = xb at *
      clear hidx
      obtain ⟨x0, x1⟩ := HX1.out.cs
      rcases (show validX c1 B1 = false ∨ validX c1 B1 = true by cases validX c1 B1 <;> simp) with hv | hv
      · have HR := Lib.hid (show sa (k + 1) = m by rw [HST.out]; unfold stX; rw [hv]; rfl)
        rw [hv] at HVA
        clear hv
        go_wp2_with fail
        refine (HVA.out _).mono ?_
        rintro e W2 ⟨rfl, hb2⟩
        have HB2 := Lib.hid (bstep HB1.out hb2)
        clear hb2 x0 x1
        go_wp2_with fail
        go_roundw
        case rel => exact ⟨k + 1, m, by omega, by go_num, by first | rfl | (congr 1; omega), Lib.hid HR.out, HB2⟩
        case measure => simp [intOf]; omega
      · have hvb := validX_of hv
        rw [hv] at HVA
        rcases (show compX B1 V = true ∨ compX B1 V = false by cases compX B1 V <;> simp) with hc | hc
        · have HR := Lib.hid (show sa (k + 1) = m by rw [HST.out]; unfold stX; rw [hv, hc]; rfl)
          have q1 : (B1.toList == V.toList) = true := hc
          clear hc hv
          have Q1 := Lib.hid q1
          clear q1
          go_wp2_with fail
          refine (HVA.out _).mono ?_
          rintro e W2 ⟨rfl, hb2⟩
          have HX2 := Lib.hid (HX1.out.below hb2)
          have HB2 := Lib.hid (bstep HB1.out hb2)
          clear hb2 x0 x1
          obtain ⟨x0, x1⟩ := HX2.out.cs
          have q1 := Q1.out
          go_wp2_with fail
          go_roundw
          case rel => exact ⟨k + 1, m, by omega, by go_num, by first | rfl | (congr 1; omega), Lib.hid HR.out, HB2⟩
          case measure => simp [intOf]; omega
        · have Q1 := Lib.hid (show (B1.toList == V.toList) = false from hc)
          rcases (show m < c1 ∨ c1 ≤ m by omega) with hmc | hmc
          · have hmx : max m c1 = c1 := by omega
            have HA := Lib.hid (fun W => ab_s c1 B1 c1 V W)
            rcases (show abX c1 B1 c1 V = true ∨ abX c1 B1 c1 V = false by cases abX c1 B1 c1 V <;> simp) with ha | ha
            · have HR := Lib.hid (show sa (k + 1) = c1 + 1 by rw [HST.out]; unfold stX; rw [hv, hc, hmx, ha]; rfl)
              have hle := abX_le ha
              rw [ha] at HA
              clear hv hc hmx ha
              go_wp2_with fail
              refine (HVA.out _).mono ?_
              rintro e W2 ⟨rfl, hb2⟩
              have HX2 := Lib.hid (HX1.out.below hb2)
              have HB2 := Lib.hid (bstep HB1.out hb2)
              clear hb2 x0 x1
              obtain ⟨x0, x1⟩ := HX2.out.cs
              have q1 := Q1.out
              go_wp2_with fail
              refine (HA.out _).mono ?_
              rintro e W3 ⟨rfl, hb2⟩
              have HX3 := Lib.hid (HX2.out.below hb2)
              have HB3 := Lib.hid (bstep HB2.out hb2)
              clear hb2 x0 x1
              obtain ⟨x0, x1⟩ := HX3.out.cs
              go_wp2_with fail
              go_roundw
              case rel => exact ⟨k + 1, c1 + 1, by omega, by go_num, by first | rfl | (congr 1; omega), Lib.hid HR.out, HB3⟩
              case measure => simp [intOf]; omega
            · have HR := Lib.hid (show sa (k + 1) = c1 by rw [HST.out]; unfold stX; rw [hv, hc, hmx, ha]; rfl)
              have hle := hvb.1
              rw [ha] at HA
              clear hv hc hmx ha
              go_wp2_with fail
              refine (HVA.out _).mono ?_
              rintro e W2 ⟨rfl, hb2⟩
              have HX2 := Lib.hid (HX1.out.below hb2)
              have HB2 := Lib.hid (bstep HB1.out hb2)
              clear hb2 x0 x1
              obtain ⟨x0, x1⟩ := HX2.out.cs
              have q1 := Q1.out
              go_wp2_with fail
              refine (HA.out _).mono ?_
              rintro e W3 ⟨rfl, hb2⟩
              have HX3 := Lib.hid (HX2.out.below hb2)
              have HB3 := Lib.hid (bstep HB2.out hb2)
              clear hb2 x0 x1
              obtain ⟨x0, x1⟩ := HX3.out.cs
              go_wp2_with fail
              go_roundw
              case rel => exact ⟨k + 1, c1, by omega, by go_num, by first | rfl | (congr 1; omega), Lib.hid HR.out, HB3⟩
              case measure => simp [intOf]; omega
          · have hmx : max m c1 = m := by omega
            have HA := Lib.hid (fun W => ab_s c1 B1 m V W)
            rcases (show abX c1 B1 m V = true ∨ abX c1 B1 m V = false by cases abX c1 B1 m V <;> simp) with ha | ha
            · have HR := Lib.hid (show sa (k + 1) = m + 1 by rw [HST.out]; unfold stX; rw [hv, hc, hmx, ha]; rfl)
              have hle := abX_le ha
              rw [ha] at HA
              clear hv hc hmx ha
              go_wp2_with fail
              refine (HVA.out _).mono ?_
              rintro e W2 ⟨rfl, hb2⟩
              have HX2 := Lib.hid (HX1.out.below hb2)
              have HB2 := Lib.hid (bstep HB1.out hb2)
              clear hb2 x0 x1
              obtain ⟨x0, x1⟩ := HX2.out.cs
              have q1 := Q1.out
              go_wp2_with fail
              refine (HA.out _).mono ?_
              rintro e W3 ⟨rfl, hb2⟩
              have HX3 := Lib.hid (HX2.out.below hb2)
              have HB3 := Lib.hid (bstep HB2.out hb2)
              clear hb2 x0 x1
              obtain ⟨x0, x1⟩ := HX3.out.cs
              go_wp2_with fail
              go_roundw
              case rel => exact ⟨k + 1, m + 1, by omega, by go_num, by first | rfl | (congr 1; omega), Lib.hid HR.out, HB3⟩
              case measure => simp [intOf]; omega
            · have HR := Lib.hid (show sa (k + 1) = m by rw [HST.out]; unfold stX; rw [hv, hc, hmx, ha]; rfl)
              have hle := hvb.1
              rw [ha] at HA
              clear hv hc hmx ha
              go_wp2_with fail
              refine (HVA.out _).mono ?_
              rintro e W2 ⟨rfl, hb2⟩
              have HX2 := Lib.hid (HX1.out.below hb2)
              have HB2 := Lib.hid (bstep HB1.out hb2)
              clear hb2 x0 x1
              obtain ⟨x0, x1⟩ := HX2.out.cs
              have q1 := Q1.out
              go_wp2_with fail
              refine (HA.out _).mono ?_
              rintro e W3 ⟨rfl, hb2⟩
              have HX3 := Lib.hid (HX2.out.below hb2)
              have HB3 := Lib.hid (bstep HB2.out hb2)
              clear hb2 x0 x1
              obtain ⟨x0, x1⟩ := HX3.out.cs
              go_wp2_with fail
              go_roundw
              case rel => exact ⟨k + 1, m, by omega, by go_num, by first | rfl | (congr 1; omega), Lib.hid HR.out, HB3⟩
              case measure => simp [intOf]; omega
    · obtain rfl : 2 = k := by omega
      go_wp2_with fail
      go_ret
      exact ⟨by rw [hm.out]; rfl, hB.out⟩

theorem lowest_s (V : ByteArray) (n c : Int) (B : ByteArray) (d : Int) (C : ByteArray) (w : World) (hn1 : n ≤ 9223372036854775807) :
    Calls Try.prog 29 #[.string V, .int .i64 n, .agg #[.int .i64 c, .string B], .agg #[.int .i64 d, .string C]] w fun e w' => e = .returned (.int .i64 (sAt V n c B d C 2)) ∧ Below w.heap.size w w' := by
  rcases (show n < 1 ∨ 1 ≤ n by omega) with h | h
  · exact lowest_s_lt V n c B d C w h hn1
  · exact lowest_s_ge V n c B d C w h hn1

set_option maxRecDepth 100000 in
set_option maxHeartbeats 8000000 in
theorem lowest_r_ge (V : ByteArray) (n c : Int) (B : ByteArray) (d : Int) (C : ByteArray) (w : World) (hn : 1 ≤ n) (hn1 : n ≤ 9223372036854775807) :
    Calls Try.prog 31 #[.string V, .int .i64 n, .agg #[.int .i64 c, .string B], .agg #[.int .i64 d, .string C]] w fun e w' => e = .returned (.int .i64 (sAt V n c B d C 2)) ∧ Below w.heap.size w w' := by
  have HBD := Lib.hid (fun k => sAt_bd V n c B d C hn1 k)
  have H0 := Lib.hid (show sAt V n c B d C 0 = n by show max n 1 = _; omega)
  have HB0 := Lib.hid (balloc (balloc (bref w) (.cells #[.int .i64 c, .string B] 25)) (.cells #[.int .i64 d, .string C] 25))
  have HIX := Lib.hid (show ∀ k : Nat, k < 2 → ∃ (c1 : Int) (B1 : ByteArray), (∀ W, (Instr.index 62 (.agg #[.int .i64 c, .string B, .int .i64 d, .string C]) (.int .i64 (k : Int))).run Try.prog W = .ok (.agg #[.int .i64 c1, .string B1]) W) ∧ sAt V n c B d C (k + 1) = stX V c1 B1 (sAt V n c B d C k) from fun k hk => by
    match k, hk with
    | 0, _ => exact ⟨c, B, fun _ => by kernel_rfl, rfl⟩
    | 1, _ => exact ⟨d, C, fun _ => by kernel_rfl, rfl⟩)
  generalize sAt V n c B d C = sa at *
  go_enter Try.func31, Try.ntmps31
  go_wp2_with fail
  go_loopw [9, 17] (fun u t W => ∃ (k : Nat) (m : Int), k ≤ 2 ∧ t = .int .i64 k ∧ u = .int .i64 m ∧ Hid (sa k = m) ∧ Hid (Below w.heap.size w W)) (fun _ t _ => 2 - (intOf t).toNat)
  case atStart => exact ⟨0, _, by omega, rfl, rfl, Lib.hid H0.out, HB0⟩
  case round =>
    obtain ⟨k, m, hk, rfl, rfl, hm, hB⟩ := hrel
    have hm0 : 1 ≤ m ∧ m ≤ 9223372036854775807 := by rw [← hm.out]; exact HBD.out k
    obtain ⟨hm0, hm1⟩ := hm0
    by_cases hlt : k < 2
    · obtain ⟨c1, B1, hidx, hst⟩ := HIX.out k hlt
      rw [hm.out] at hst
      have HST := Lib.hid hst
      have HX1 := Lib.hid (BalX.new wr c1 B1)
      have HB1 := Lib.hid (balloc hB.out (.cells #[.int .i64 c1, .string B1] 25))
      have HVA := Lib.hid (fun W => valid_r c1 B1 W)
      clear hst
      go_upto_region 5 with fail
      generalize wr.alloc (.cells #[.int .i64 c1, .string B1] 25) = W1 at *
      generalize wr.heap.size = xb at *
      clear hidx
      obtain ⟨x0, x1⟩ := HX1.out.cs
      rcases (show validX c1 B1 = false ∨ validX c1 B1 = true by cases validX c1 B1 <;> simp) with hv | hv
      · have HR := Lib.hid (show sa (k + 1) = m by rw [HST.out]; unfold stX; rw [hv]; rfl)
        rw [hv] at HVA
        clear hv
        go_wp2_with fail
        refine (HVA.out _).mono ?_
        rintro e W2 ⟨rfl, hb2⟩
        have HB2 := Lib.hid (bstep HB1.out hb2)
        clear hb2 x0 x1
        go_wp2_with fail
        go_roundw
        case rel => exact ⟨k + 1, m, by omega, by go_num, by first | rfl | (congr 1; omega), Lib.hid HR.out, HB2⟩
        case measure => simp [intOf]; omega
      · have hvb := validX_of hv
        rw [hv] at HVA
        rw [stX_ref] at HST
        rcases (show abX c1 B1 m V = true ∨ abX c1 B1 m V = false by cases abX c1 B1 m V <;> simp) with ha | ha
        · have HA := Lib.hid (fun W => ab_r c1 B1 m V W)
          have HA2 := Lib.hid (fun W => ab_r c1 B1 c1 V W)
          rw [ha] at HA
          rcases (show abX c1 B1 c1 V = true ∨ abX c1 B1 c1 V = false by cases abX c1 B1 c1 V <;> simp) with h2 | h2
          · have HR := Lib.hid (show sa (k + 1) = c1 + 1 by rw [HST.out, hv, ha, h2]; rfl)
            rw [h2] at HA2
            clear hv ha h2
            go_wp2_with fail
            refine (HVA.out _).mono ?_
            rintro e W2 ⟨rfl, hb2⟩
            have HX2 := Lib.hid (HX1.out.below hb2)
            have HB2 := Lib.hid (bstep HB1.out hb2)
            clear hb2 x0 x1
            obtain ⟨x0, x1⟩ := HX2.out.cs
            go_wp2_with fail
            refine (HA.out _).mono ?_
            rintro e W3 ⟨rfl, hb2⟩
            have HX3 := Lib.hid (HX2.out.below hb2)
            have HB3 := Lib.hid (bstep HB2.out hb2)
            clear hb2 x0 x1
            obtain ⟨x0, x1⟩ := HX3.out.cs
            go_wp2_with fail
            refine (HA2.out _).mono ?_
            rintro e W4 ⟨rfl, hb2⟩
            have HX4 := Lib.hid (HX3.out.below hb2)
            have HB4 := Lib.hid (bstep HB3.out hb2)
            clear hb2 x0 x1
            obtain ⟨x0, x1⟩ := HX4.out.cs
            go_wp2_with fail
            go_roundw
            case rel => exact ⟨k + 1, c1 + 1, by omega, by go_num, by first | rfl | (congr 1; omega), Lib.hid HR.out, HB4⟩
            case measure => simp [intOf]; omega
          · have HR := Lib.hid (show sa (k + 1) = c1 by rw [HST.out, hv, ha, h2]; rfl)
            rw [h2] at HA2
            clear hv ha h2
            go_wp2_with fail
            refine (HVA.out _).mono ?_
            rintro e W2 ⟨rfl, hb2⟩
            have HX2 := Lib.hid (HX1.out.below hb2)
            have HB2 := Lib.hid (bstep HB1.out hb2)
            clear hb2 x0 x1
            obtain ⟨x0, x1⟩ := HX2.out.cs
            go_wp2_with fail
            refine (HA.out _).mono ?_
            rintro e W3 ⟨rfl, hb2⟩
            have HX3 := Lib.hid (HX2.out.below hb2)
            have HB3 := Lib.hid (bstep HB2.out hb2)
            clear hb2 x0 x1
            obtain ⟨x0, x1⟩ := HX3.out.cs
            go_wp2_with fail
            refine (HA2.out _).mono ?_
            rintro e W4 ⟨rfl, hb2⟩
            have HX4 := Lib.hid (HX3.out.below hb2)
            have HB4 := Lib.hid (bstep HB3.out hb2)
            clear hb2 x0 x1
            obtain ⟨x0, x1⟩ := HX4.out.cs
            go_wp2_with fail
            go_roundw
            case rel => exact ⟨k + 1, c1, by omega, by go_num, by first | rfl | (congr 1; omega), Lib.hid HR.out, HB4⟩
            case measure => simp [intOf]; omega
        · have HA := Lib.hid (fun W => ab_r c1 B1 m V W)
          rw [ha] at HA
          have HR := Lib.hid (show sa (k + 1) = m by rw [HST.out, hv, ha]; rfl)
          clear hv ha
          go_wp2_with fail
          refine (HVA.out _).mono ?_
          rintro e W2 ⟨rfl, hb2⟩
          have HX2 := Lib.hid (HX1.out.below hb2)
          have HB2 := Lib.hid (bstep HB1.out hb2)
          clear hb2 x0 x1
          obtain ⟨x0, x1⟩ := HX2.out.cs
          go_wp2_with fail
          refine (HA.out _).mono ?_
          rintro e W3 ⟨rfl, hb2⟩
          have HX3 := Lib.hid (HX2.out.below hb2)
          have HB3 := Lib.hid (bstep HB2.out hb2)
          clear hb2 x0 x1
          obtain ⟨x0, x1⟩ := HX3.out.cs
          go_wp2_with fail
          go_roundw
          case rel => exact ⟨k + 1, m, by omega, by go_num, by first | rfl | (congr 1; omega), Lib.hid HR.out, HB3⟩
          case measure => simp [intOf]; omega
    · obtain rfl : 2 = k := by omega
      go_wp2_with fail
      go_ret
      exact ⟨by rw [hm.out]; rfl, hB.out⟩

set_option maxRecDepth 100000 in
set_option maxHeartbeats 8000000 in
theorem lowest_r_lt (V : ByteArray) (n c : Int) (B : ByteArray) (d : Int) (C : ByteArray) (w : World) (hn : n < 1) (hn1 : n ≤ 9223372036854775807) :
    Calls Try.prog 31 #[.string V, .int .i64 n, .agg #[.int .i64 c, .string B], .agg #[.int .i64 d, .string C]] w fun e w' => e = .returned (.int .i64 (sAt V n c B d C 2)) ∧ Below w.heap.size w w' := by
  have HBD := Lib.hid (fun k => sAt_bd V n c B d C hn1 k)
  have H0 := Lib.hid (show sAt V n c B d C 0 = 1 by show max n 1 = _; omega)
  have HB0 := Lib.hid (balloc (balloc (bref w) (.cells #[.int .i64 c, .string B] 25)) (.cells #[.int .i64 d, .string C] 25))
  have HIX := Lib.hid (show ∀ k : Nat, k < 2 → ∃ (c1 : Int) (B1 : ByteArray), (∀ W, (Instr.index 62 (.agg #[.int .i64 c, .string B, .int .i64 d, .string C]) (.int .i64 (k : Int))).run Try.prog W = .ok (.agg #[.int .i64 c1, .string B1]) W) ∧ sAt V n c B d C (k + 1) = stX V c1 B1 (sAt V n c B d C k) from fun k hk => by
    match k, hk with
    | 0, _ => exact ⟨c, B, fun _ => by kernel_rfl, rfl⟩
    | 1, _ => exact ⟨d, C, fun _ => by kernel_rfl, rfl⟩)
  generalize sAt V n c B d C = sa at *
  go_enter Try.func31, Try.ntmps31
  go_wp2_with fail
  go_loopw [9, 17] (fun u t W => ∃ (k : Nat) (m : Int), k ≤ 2 ∧ t = .int .i64 k ∧ u = .int .i64 m ∧ Hid (sa k = m) ∧ Hid (Below w.heap.size w W)) (fun _ t _ => 2 - (intOf t).toNat)
  case atStart => exact ⟨0, _, by omega, rfl, rfl, Lib.hid H0.out, HB0⟩
  case round =>
    obtain ⟨k, m, hk, rfl, rfl, hm, hB⟩ := hrel
    have hm0 : 1 ≤ m ∧ m ≤ 9223372036854775807 := by rw [← hm.out]; exact HBD.out k
    obtain ⟨hm0, hm1⟩ := hm0
    by_cases hlt : k < 2
    · obtain ⟨c1, B1, hidx, hst⟩ := HIX.out k hlt
      rw [hm.out] at hst
      have HST := Lib.hid hst
      have HX1 := Lib.hid (BalX.new wr c1 B1)
      have HB1 := Lib.hid (balloc hB.out (.cells #[.int .i64 c1, .string B1] 25))
      have HVA := Lib.hid (fun W => valid_r c1 B1 W)
      clear hst
      go_upto_region 5 with fail
      generalize wr.alloc (.cells #[.int .i64 c1, .string B1] 25) = W1 at *
      generalize wr.heap.size = xb at *
      clear hidx
      obtain ⟨x0, x1⟩ := HX1.out.cs
      rcases (show validX c1 B1 = false ∨ validX c1 B1 = true by cases validX c1 B1 <;> simp) with hv | hv
      · have HR := Lib.hid (show sa (k + 1) = m by rw [HST.out]; unfold stX; rw [hv]; rfl)
        rw [hv] at HVA
        clear hv
        go_wp2_with fail
        refine (HVA.out _).mono ?_
        rintro e W2 ⟨rfl, hb2⟩
        have HB2 := Lib.hid (bstep HB1.out hb2)
        clear hb2 x0 x1
        go_wp2_with fail
        go_roundw
        case rel => exact ⟨k + 1, m, by omega, by go_num, by first | rfl | (congr 1; omega), Lib.hid HR.out, HB2⟩
        case measure => simp [intOf]; omega
      · have hvb := validX_of hv
        rw [hv] at HVA
        rw [stX_ref] at HST
        rcases (show abX c1 B1 m V = true ∨ abX c1 B1 m V = false by cases abX c1 B1 m V <;> simp) with ha | ha
        · have HA := Lib.hid (fun W => ab_r c1 B1 m V W)
          have HA2 := Lib.hid (fun W => ab_r c1 B1 c1 V W)
          rw [ha] at HA
          rcases (show abX c1 B1 c1 V = true ∨ abX c1 B1 c1 V = false by cases abX c1 B1 c1 V <;> simp) with h2 | h2
          · have HR := Lib.hid (show sa (k + 1) = c1 + 1 by rw [HST.out, hv, ha, h2]; rfl)
            rw [h2] at HA2
            clear hv ha h2
            go_wp2_with fail
            refine (HVA.out _).mono ?_
            rintro e W2 ⟨rfl, hb2⟩
            have HX2 := Lib.hid (HX1.out.below hb2)
            have HB2 := Lib.hid (bstep HB1.out hb2)
            clear hb2 x0 x1
            obtain ⟨x0, x1⟩ := HX2.out.cs
            go_wp2_with fail
            refine (HA.out _).mono ?_
            rintro e W3 ⟨rfl, hb2⟩
            have HX3 := Lib.hid (HX2.out.below hb2)
            have HB3 := Lib.hid (bstep HB2.out hb2)
            clear hb2 x0 x1
            obtain ⟨x0, x1⟩ := HX3.out.cs
            go_wp2_with fail
            refine (HA2.out _).mono ?_
            rintro e W4 ⟨rfl, hb2⟩
            have HX4 := Lib.hid (HX3.out.below hb2)
            have HB4 := Lib.hid (bstep HB3.out hb2)
            clear hb2 x0 x1
            obtain ⟨x0, x1⟩ := HX4.out.cs
            go_wp2_with fail
            go_roundw
            case rel => exact ⟨k + 1, c1 + 1, by omega, by go_num, by first | rfl | (congr 1; omega), Lib.hid HR.out, HB4⟩
            case measure => simp [intOf]; omega
          · have HR := Lib.hid (show sa (k + 1) = c1 by rw [HST.out, hv, ha, h2]; rfl)
            rw [h2] at HA2
            clear hv ha h2
            go_wp2_with fail
            refine (HVA.out _).mono ?_
            rintro e W2 ⟨rfl, hb2⟩
            have HX2 := Lib.hid (HX1.out.below hb2)
            have HB2 := Lib.hid (bstep HB1.out hb2)
            clear hb2 x0 x1
            obtain ⟨x0, x1⟩ := HX2.out.cs
            go_wp2_with fail
            refine (HA.out _).mono ?_
            rintro e W3 ⟨rfl, hb2⟩
            have HX3 := Lib.hid (HX2.out.below hb2)
            have HB3 := Lib.hid (bstep HB2.out hb2)
            clear hb2 x0 x1
            obtain ⟨x0, x1⟩ := HX3.out.cs
            go_wp2_with fail
            refine (HA2.out _).mono ?_
            rintro e W4 ⟨rfl, hb2⟩
            have HX4 := Lib.hid (HX3.out.below hb2)
            have HB4 := Lib.hid (bstep HB3.out hb2)
            clear hb2 x0 x1
            obtain ⟨x0, x1⟩ := HX4.out.cs
            go_wp2_with fail
            go_roundw
            case rel => exact ⟨k + 1, c1, by omega, by go_num, by first | rfl | (congr 1; omega), Lib.hid HR.out, HB4⟩
            case measure => simp [intOf]; omega
        · have HA := Lib.hid (fun W => ab_r c1 B1 m V W)
          rw [ha] at HA
          have HR := Lib.hid (show sa (k + 1) = m by rw [HST.out, hv, ha]; rfl)
          clear hv ha
          go_wp2_with fail
          refine (HVA.out _).mono ?_
          rintro e W2 ⟨rfl, hb2⟩
          have HX2 := Lib.hid (HX1.out.below hb2)
          have HB2 := Lib.hid (bstep HB1.out hb2)
          clear hb2 x0 x1
          obtain ⟨x0, x1⟩ := HX2.out.cs
          go_wp2_with fail
          refine (HA.out _).mono ?_
          rintro e W3 ⟨rfl, hb2⟩
          have HX3 := Lib.hid (HX2.out.below hb2)
          have HB3 := Lib.hid (bstep HB2.out hb2)
          clear hb2 x0 x1
          obtain ⟨x0, x1⟩ := HX3.out.cs
          go_wp2_with fail
          go_roundw
          case rel => exact ⟨k + 1, m, by omega, by go_num, by first | rfl | (congr 1; omega), Lib.hid HR.out, HB3⟩
          case measure => simp [intOf]; omega
    · obtain rfl : 2 = k := by omega
      go_wp2_with fail
      go_ret
      exact ⟨by rw [hm.out]; rfl, hB.out⟩

theorem lowest_r (V : ByteArray) (n c : Int) (B : ByteArray) (d : Int) (C : ByteArray) (w : World) (hn1 : n ≤ 9223372036854775807) :
    Calls Try.prog 31 #[.string V, .int .i64 n, .agg #[.int .i64 c, .string B], .agg #[.int .i64 d, .string C]] w fun e w' => e = .returned (.int .i64 (sAt V n c B d C 2)) ∧ Below w.heap.size w w' := by
  rcases (show n < 1 ∨ 1 ≤ n by omega) with h | h
  · exact lowest_r_lt V n c B d C w h hn1
  · exact lowest_r_ge V n c B d C w h hn1

end Go.Proofs.Ytnnajmoedihkjaa
