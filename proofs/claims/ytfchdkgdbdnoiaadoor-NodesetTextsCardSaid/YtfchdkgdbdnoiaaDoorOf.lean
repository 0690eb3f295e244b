/- The contract of nodeset.Of. -/
import Derived.Test.YtfchdkgdbdnoiaaDoorRef01
namespace Go.Proofs.YtfchdkgdbdnoiaaDoor
set_option linter.unusedVariables false
set_option linter.unusedSimpArgs false
open Go.RowKit

set_option maxHeartbeats 2000000 in
theorem pof_run (A : Option Addr) (c : Nat) (ns : List Int) (w : World) (hn : ns.length ≤ 1000000) (hr : InR ns) (hd : ns.Nodup)
    (h : ∀ k, k < ns.length → ∃ b off, A = some ⟨b, off, none⟩ ∧ w.cell? ⟨b, off + k, none⟩ = some (.int .i64 (ns.getD k 0))) :
    Calls Tryd.prog 6 #[.slice A ns.length c] w fun e w' => e = .returned (.tuple #[.int .i64 (nodesS ns), .int .i64 0]) ∧ w = w' := by
  have H := Lib.hid h
  have HR := Lib.hid hr
  have HD := Lib.hid hd
  clear h hr hd
  go_enter Tryd.func6, Tryd.ntmps6
  go_wp2_with fail
  go_loop [4, 9] (fun u t => ∃ (k s : Nat), k ≤ ns.length ∧ t = .int .i64 k ∧ u = .int .i64 (s : Int) ∧ Hid (s = (ns.take k).foldl bitS 0)) (fun _ t => ns.length - (intOf t).toNat)
  case atStart => exact ⟨0, 0, by omega, rfl, rfl, Lib.hid (by simp)⟩
  case round =>
    obtain ⟨k, s, hk, rfl, rfl, hs⟩ := hrel
    have hs1 : s < 1024 := by rw [hs.out]; exact foldBit_lt _ 0 (by omega)
    by_cases hlt : k < ns.length
    · obtain ⟨b, off, rfl, hc⟩ := H.out k hlt
      have hx0 : ns[k]? = some (ns.getD k 0) := by rw [List.getD_eq_getElem?_getD, List.getElem?_eq_getElem hlt]; rfl
      have hs' := foldl_take_succ bitS 0 hx0
      rw [← hs.out] at hs'
      have hin := HR.out _ (List.mem_of_getElem? hx0)
      have hnot : hasB (s : Int) (ns.getD k 0) = false := by
        unfold hasB
        rw [hs.out]
        have : ((List.foldl bitS 0 (List.take k ns)).testBit (ns.getD k 0).toNat) = false := by
          rw [foldBit_bit _ 0 _ (fun x hx => HR.out x (List.mem_of_mem_take hx))]
          have e : (((ns.getD k 0).toNat : Nat) : Int) = ns.getD k 0 := by omega
          rw [e]
          simp only [Nat.zero_testBit, Bool.false_or, decide_eq_false_iff_not]
          intro hmem
          obtain ⟨i, hi, hie⟩ := List.getElem_of_mem hmem
          rw [List.getElem_take] at hie
          have hik : i < k := by simp at hi; omega
          have h2 := List.pairwise_iff_getElem.1 (List.nodup_iff_pairwise_ne.1 HD.out) i k (by omega) hlt hik
          apply h2
          rw [hie, List.getD_eq_getElem?_getD, List.getElem?_eq_getElem hlt]; rfl
        rw [Int.toNat_natCast, this]
        simp
      generalize ns.getD k 0 = x at *
      obtain ⟨h0, h10⟩ := hin
      obtain ⟨K, rfl⟩ := Int.eq_ofNat_of_zero_le h0
      have hK : K < 10 := by omega
      have HS := Lib.hid (show (ns.take (k + 1)).foldl bitS 0 = s ||| 2 ^ K by rw [hs']; unfold bitS; rw [if_pos ⟨h0, h10⟩]; rfl)
      have HOR := Lib.hid (shl_or s K (by omega) hK)
      have HN := Lib.hid hnot
      clear hs' hx0 hnot
      have HNB := Lib.hid (show nodeB (K : Int) = true by rw [nodeB_iff]; omega)
      go_wp2_with fail
      refine (isNode_run _ _).mono ?_
      rintro e w2 ⟨rfl, rfl⟩
      rw [HNB.out]
      go_wp2_with fail
      refine (has_run _ _ _).mono ?_
      rintro e w2 ⟨rfl, rfl⟩
      rw [HN.out]
      go_wp2_with fail
      rw [HOR.out]
      go_round
      case rel => exact ⟨k + 1, _, by omega, by go_num, rfl, Lib.hid HS.out.symm⟩
      case measure => simp [intOf]; omega
    · obtain rfl : k = ns.length := by omega
      have hN := Lib.hid (show s = nodesS ns by rw [hs.out, List.take_length]; rfl)
      go_wp2_with fail
      go_ret2
      exact ⟨by rw [hN.out]; rfl, rfl⟩

end Go.Proofs.YtfchdkgdbdnoiaaDoor
