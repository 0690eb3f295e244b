/- The contracts of the reference's sets: Valid, Has, Of. -/
import Derived.Test.YtfghnkgllmofgaaUses
namespace Go.Proofs.Ytfghnkgllmofgaa
set_option linter.unusedVariables false
set_option linter.unusedSimpArgs false
open Go.RowKit

set_option maxHeartbeats 400000 in
theorem rsetValid_run (s : Int) (w : World) : Calls Try.prog 58 #[.int .i64 s] w fun e w' => e = .returned (.bool (setB s)) ∧ w = w' := by
  cases hb : setB s
  all_goals
    have hi := setB_iff (s := s)
    rw [hb] at hi
    simp only [reduceCtorEq, false_iff, true_iff] at hi
    clear hb
    by_cases h0 : 0 ≤ s <;> by_cases h1 : s ≤ 1023
  all_goals first | (exfalso; omega) | skip
  all_goals
    clear hi
    go_enter Try.func58, Try.ntmps58
    go_wp2
    go_ret
    exact ⟨rfl, rfl⟩

set_option maxHeartbeats 1000000 in
theorem rhas_run (s k : Int) (w : World) : Calls Try.prog 73 #[.int .i64 s, .int .i64 k] w fun e w' => e = .returned (.bool (hasB s k)) ∧ w = w' := by
  cases h1 : setB s
  · have HH := Lib.hid (show hasB s k = false by unfold hasB; simp [h1])
    go_enter Try.func73, Try.ntmps73
    go_wp2_with (first | (go_at_call 58; refine (rsetValid_run _ _).mono ?_; rintro e w2 ⟨rfl, rfl⟩))
    go_ret
    exact ⟨by rw [HH.out]; rfl, rfl⟩
  · by_cases k0 : 0 ≤ k
    · by_cases k1 : k < 10
      · obtain ⟨s0, s1⟩ := setB_iff.1 h1
        obtain ⟨S, rfl⟩ := Int.eq_ofNat_of_zero_le s0
        obtain ⟨K, rfl⟩ := Int.eq_ofNat_of_zero_le k0
        have h2 : nodeB (K : Int) = true := nodeB_iff.2 ⟨k0, k1⟩
        have HH := Lib.hid (show hasB (S : Int) (K : Int) = S.testBit K by unfold hasB; simp [h1, h2])
        clear h2
        go_enter Try.func73, Try.ntmps73
        go_wp2_with (first | (go_at_call 58; refine (rsetValid_run _ _).mono ?_; rintro e w2 ⟨rfl, rfl⟩))
        go_ret
        exact ⟨by rw [HH.out, ← bit_fact S K (by omega)]; rfl, rfl⟩
      · have HH := Lib.hid (show hasB s k = false by unfold hasB nodeB; simp [k1])
        go_enter Try.func73, Try.ntmps73
        go_wp2_with (first | (go_at_call 58; refine (rsetValid_run _ _).mono ?_; rintro e w2 ⟨rfl, rfl⟩))
        go_ret
        exact ⟨by rw [HH.out]; rfl, rfl⟩
    · have HH := Lib.hid (show hasB s k = false by unfold hasB nodeB; simp [k0])
      go_enter Try.func73, Try.ntmps73
      go_wp2_with (first | (go_at_call 58; refine (rsetValid_run _ _).mono ?_; rintro e w2 ⟨rfl, rfl⟩))
      go_ret
      exact ⟨by rw [HH.out]; rfl, rfl⟩

/-- Nodes in range. -/
def InR (ns : List Int) : Prop := ∀ x ∈ ns, 0 ≤ x ∧ x < 10

theorem foldBit_bit : ∀ (ns : List Int) (s K : Nat), InR ns → (ns.foldl bitS s).testBit K = (s.testBit K || decide ((K : Int) ∈ ns))
  | [], s, K, _ => by simp
  | x :: ns, s, K, h => by
    rw [List.foldl_cons, foldBit_bit ns _ K (fun y hy => h y (List.mem_cons_of_mem _ hy))]
    have hx := h x List.mem_cons_self
    unfold bitS
    rw [if_pos hx, Nat.testBit_or, Nat.testBit_two_pow, Bool.or_assoc]
    congr 1
    rw [Bool.eq_iff_iff]
    simp
    constructor
    · rintro (h | h)
      · left; omega
      · exact .inr h
    · rintro (h | h)
      · left; omega
      · exact .inr h

theorem nodesS_bit {ns : List Int} (K : Nat) (h : InR ns) : (nodesS ns).testBit K = decide ((K : Int) ∈ ns) := by
  unfold nodesS; rw [foldBit_bit ns 0 K h]; simp

set_option maxHeartbeats 2000000 in
theorem rof_run (A : Option Addr) (c : Nat) (ns : List Int) (w : World) (hn : ns.length ≤ 1000000) (hr : InR ns) (hd : ns.Nodup)
    (h : ∀ k, k < ns.length → ∃ b off, A = some ⟨b, off, none⟩ ∧ w.cell? ⟨b, off + k, none⟩ = some (.int .i64 (ns.getD k 0))) :
    Calls Try.prog 68 #[.slice A ns.length c] w fun e w' => e = .returned (.tuple #[.int .i64 (nodesS ns), .int .i64 0]) ∧ w = w' := by
  have H := Lib.hid h
  have HR := Lib.hid hr
  have HD := Lib.hid hd
  clear h hr hd
  go_enter Try.func68, Try.ntmps68
  go_wp2_with fail
  go_loop [4, 9] (fun u t => ∃ (k s : Nat), k ≤ ns.length ∧ t = .int .i64 k ∧ u = .int .i64 (s : Int) ∧ Hid (s = (ns.take k).foldl bitS 0)) (fun _ t => ns.length - (intOf t).toNat)
  case atStart => exact ⟨0, 0, by omega, rfl, rfl, Lib.hid (by simp)⟩
  case round =>
    obtain ⟨k, s, hk, rfl, rfl, hs⟩ := hrel
    have hs1 : s < 1024 := by rw [hs.out]; exact foldBit_lt _ 0 (by omega)
    by_cases hlt : k < ns.length
    · obtain ⟨b, off, rfl, hc⟩ := H.out k hlt
      have hx0 : ns[k]? = some (ns.getD k 0) := by rw [List.getD_eq_getElem?_getD, List.getElem?_eq_getElem hlt]; rfl
      have hs' := foldl_take_succ bitS 0 hx0
      rw [← hs.out] at hs'
      have hin := HR.out _ (List.mem_of_getElem? hx0)
      have hnot : hasB (s : Int) (ns.getD k 0) = false := by
        unfold hasB
        rw [hs.out]
        have : ((List.foldl bitS 0 (List.take k ns)).testBit (ns.getD k 0).toNat) = false := by
          rw [foldBit_bit _ 0 _ (fun x hx => HR.out x (List.mem_of_mem_take hx))]
          have e : (((ns.getD k 0).toNat : Nat) : Int) = ns.getD k 0 := by omega
          rw [e]
          simp only [Nat.zero_testBit, Bool.false_or, decide_eq_false_iff_not]
          intro hmem
          obtain ⟨i, hi, hie⟩ := List.getElem_of_mem hmem
          rw [List.getElem_take] at hie
          have hik : i < k := by simp at hi; omega
          have h2 := List.pairwise_iff_getElem.1 (List.nodup_iff_pairwise_ne.1 HD.out) i k (by omega) hlt hik
          apply h2
          rw [hie, List.getD_eq_getElem?_getD, List.getElem?_eq_getElem hlt]; rfl
        rw [Int.toNat_natCast, this]
        simp
      generalize ns.getD k 0 = x at *
      obtain ⟨h0, h10⟩ := hin
      obtain ⟨K, rfl⟩ := Int.eq_ofNat_of_zero_le h0
      have hK : K < 10 := by omega
      have HS := Lib.hid (show (ns.take (k + 1)).foldl bitS 0 = s ||| 2 ^ K by rw [hs']; unfold bitS; rw [if_pos ⟨h0, h10⟩]; rfl)
      have HOR := Lib.hid (shl_or s K (by omega) hK)
      have HN := Lib.hid hnot
      clear hs' hx0 hnot
      go_wp2_with fail
      refine (rhas_run _ _ _).mono ?_
      rintro e w2 ⟨rfl, rfl⟩
      rw [HN.out]
      go_wp2_with fail
      rw [HOR.out]
      go_round
      case rel => exact ⟨k + 1, _, by omega, by go_num, rfl, Lib.hid HS.out.symm⟩
      case measure => simp [intOf]; omega
    · obtain rfl : k = ns.length := by omega
      have hN := Lib.hid (show s = nodesS ns by rw [hs.out, List.take_length]; rfl)
      go_wp2_with fail
      go_ret2
      exact ⟨by rw [hN.out]; rfl, rfl⟩

end Go.Proofs.Ytfghnkgllmofgaa
