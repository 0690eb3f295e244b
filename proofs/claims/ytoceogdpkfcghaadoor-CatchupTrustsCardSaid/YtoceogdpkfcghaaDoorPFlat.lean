/- The contract of trustquorumplay.Flat: the trust "k of all" over n nodes. -/
import Derived.Test.YtoceogdpkfcghaaDoorCopy
import Derived.Deep.DeepCutAuto
namespace Go.Proofs.YtoceogdpkfcghaaDoor
set_option linter.unusedVariables false
set_option linter.unusedSimpArgs false
open Go.RowKit

def rangeI (n : Nat) : List Int := (List.range n).map fun (i : Nat) => (i : Int)

theorem rangeI_succ (n : Nat) : rangeI (n + 1) = rangeI n ++ [(n : Int)] := by unfold rangeI; rw [List.range_succ]; simp

theorem rangeI_len (n : Nat) : (rangeI n).length = n := by unfold rangeI; simp

set_option maxRecDepth 100000 in
set_option maxHeartbeats 1000000 in
theorem pflat_run (n : Nat) (k : Int) (w : World) (hn : n ≤ 10) :
    Calls Tryd.prog 14 #[.int .i64 n, .int .i64 k] w fun e w' => ∃ v1, e = .returned (.agg #[.int .i64 k, v1, .slice none 0 0]) ∧ TAt (fun b => w.heap.size ≤ b) 1 w' (.int .i64 k) v1 (.slice none 0 0) (.mk k (rangeI n) []) ∧ Below w.heap.size w w' := by
  obtain ⟨i0, hi, hz0, hz1, hz2⟩ := info_parts infoInt
  have hout : OutAt ((w.alloc (.cells #[.int .i64 0, .slice none 0 0, .slice none 0 0] 27)).alloc (.cells #[.int .i64 k, .slice none 0 0, .slice none 0 0] 27)) (w.heap.size + 1) k (.slice none 0 0) (.slice none 0 0) := by
    have := heap_alloc_new (w.alloc (.cells #[.int .i64 0, .slice none 0 0, .slice none 0 0] 27)) (.cells #[.int .i64 k, .slice none 0 0, .slice none 0 0] 27)
    show _ = _
    simpa using this
  have hres : OutAt ((w.alloc (.cells #[.int .i64 0, .slice none 0 0, .slice none 0 0] 27)).alloc (.cells #[.int .i64 k, .slice none 0 0, .slice none 0 0] 27)) w.heap.size 0 (.slice none 0 0) (.slice none 0 0) := (Below.heap_alloc _ _ _ (by simp)).trans (heap_alloc_new _ _)
  have HO := Lib.hid hout
  have HR := Lib.hid hres
  have HB := Lib.hid (balloc (balloc (bref w) (.cells #[.int .i64 0, .slice none 0 0, .slice none 0 0] 27)) (.cells #[.int .i64 k, .slice none 0 0, .slice none 0 0] 27))
  clear hout hres
  go_enter Tryd.func14, Tryd.ntmps14
  go_upto_region 2 with fail
  generalize (w.alloc (.cells #[.int .i64 0, .slice none 0 0, .slice none 0 0] 27)).alloc (.cells #[.int .i64 k, .slice none 0 0, .slice none 0 0] 27) = W1 at *
  generalize hg : w.heap.size = g at *
  have HG := Lib.hid hg
  clear hg
  go_wp2_with fail
  go_loopw [6] (fun t W => ∃ (j : Nat) (v : Value), j ≤ n ∧ t = .int .i64 j ∧ W.ownsRow (g + 2) 3 1 v j ((rangeI j).map (Value.int .i64)) ∧ Hid (OutAt W (g + 1) k v (.slice none 0 0)) ∧ Hid (OutAt W g 0 (.slice none 0 0) (.slice none 0 0)) ∧ Hid (Below w.heap.size w W)) (fun t _ => n - (intOf t).toNat)
  case atStart => exact ⟨0, .slice none 0 0, by omega, rfl, (World.ownsRow_nil _ _ _ _ : W1.ownsRow (g + 2) 3 1 (.slice none 0 0) 0 []), HO, HR, by rw [HG.out]; exact HB⟩
  case round =>
    clear HO HR HB
    obtain ⟨j, v, hj, rfl, hown, hO, hR, hB⟩ := hrel
    obtain ⟨o0, o1, o2⟩ := hO.out.cs
    have of1 := hO.out.fr 1
    have hol := hO.out.lt
    by_cases hlt : j < n
    · have HOB := Lib.hid (fun (q : Nat) (hq : v.ownBlock = some q) => (hown.lt q hq).1)
      have hwz : g + 2 ≤ wr.heap.size := by omega
      go_wp2_with (at_builtin; refine wpList_append_own _ rfl _ _ 22 rfl (g + 2) 3 i0 (.int .i64 0) 1 8 Tryd.underlying22 hi hz0 hz1 hz2 rfl (by decide) _ _ _ rfl (hown.alloc _) ⟨wr.heap.size, 0, none⟩ 1 1 [.int .i64 j] rfl rfl (cell_one_new _ _ _) (fun u hu => by simp at hu; subst hu; rfl) (by unfold maxLen; omega) (by omega) (by simp; omega) ?_; intro v' W2 hown' hgrow hnil; obtain ⟨gq, cq, rfl, hgq, hlq⟩ := hown'.form (by omega); have hO3 := hO.out.keep ((hgrow.block _ (by simp; omega) (fun e => by have := HOB.out _ e.symm; omega)).trans (Below.heap_alloc _ _ _ hol)); obtain ⟨p0, p1, p2⟩ := hO3.cs; have pf1 := hO3.fr 1)
      have hge : ∀ q, v.ownBlock = some q → g + 2 ≤ q := HOB.out
      have hlow : ∀ q, q < g + 2 → W2.heap[q]? = wr.heap[q]? := fun q hq => (hgrow.block q (by simp; omega) (fun e => by have := hge q e.symm; omega)).trans (Below.heap_alloc _ _ _ (by omega))
      have HR3 := Lib.hid (hR.out.keep (show (W2.setCell ⟨g + 1, 1, none⟩ (.slice (some ⟨gq, 0, none⟩) (j + 1) cq)).heap[g]? = wr.heap[g]? from (Below.heap_setCell _ _ _ _ (by simp)).trans (hlow g (by omega))))
      have hown3 : W2.ownsRow (g + 2) 3 1 (.slice (some ⟨gq, 0, none⟩) (j + 1) cq) (j + 1) ((rangeI (j + 1)).map (Value.int .i64)) := by rw [rangeI_succ, List.map_append]; exact hown'
      have HOW4 := Lib.hid (hown3.kept (gset1 W2 ⟨g + 1, 1, none⟩ (.slice (some ⟨gq, 0, none⟩) (j + 1) cq)) (.inr (by simp [Value.ownBlock]; omega)))
      have HO4 := Lib.hid (hO3.set1 (.slice (some ⟨gq, 0, none⟩) (j + 1) cq))
      have HB4 := Lib.hid (bset (((balloc hB.out (.cells #[.int .i64 j] 3)).grown hgrow (by have := hB.out.size; simp; omega) (fun q hq => by have := hge q hq; have := HG.out; omega))) (p := ⟨g + 1, 1, none⟩) (by have := HG.out; simp; omega) (.slice (some ⟨gq, 0, none⟩) (j + 1) cq))
      go_roundw
      case rel => exact ⟨j + 1, _, by omega, by go_num, HOW4.out, HO4, HR3, HB4⟩
      case measure => simp [intOf]; omega
    · obtain rfl : j = n := by omega
      obtain ⟨A, c, rfl⟩ := own_slice hown
      have hNA := NodesAt.of_own (by rw [rangeI_len]; exact hown)
      obtain ⟨r0, r1, r2⟩ := hR.out.cs
      have rf0 := hR.out.fr 0
      have rf1 := hR.out.fr 1
      have rf2 := hR.out.fr 2
      have hgl := hR.out.lt
      have HT := Lib.hid (((NodesAt.both hNA (Q := fun b => g ≤ b ∧ b ≠ g) (fun _ _ _ => rfl) (fun k _ hk => by omega))))
      clear hown hNA
      go_wp2_with fail
      refine bodyPost_ret (v := .agg #[.int .i64 k, .slice A j c, .slice none 0 0]) ?_ rfl ⟨_, rfl, ?_, ?_⟩
      · simp [results, Tryd.results14, go_sem, r0, r1, r2]
      · rw [HG.out]
        have far : ∀ q, q ≠ g → (((wr.setCell ⟨g, 0, none⟩ (.int .i64 k)).setCell ⟨g, 1, none⟩ (.slice A j c)).setCell ⟨g, 2, none⟩ (.slice none 0 0)).heap[q]? = wr.heap[q]? := fun q hq =>
          (Below.heap_setCell _ _ _ _ (by simpa using hq)).trans ((Below.heap_setCell _ _ _ _ (by simpa using hq)).trans (Below.heap_setCell _ _ _ _ (by simpa using hq)))
        have h1 := NodesAt.both HT.out (Q := fun b => g ≤ b) (fun k _ hk => far k hk.2) (fun k _ hk => hk.1)
        exact TAt.of_parts (by rw [rangeI_len]; omega) (by simp) h1 ⟨none, 0, rfl, fun k T hT => by simp at hT⟩
      · exact bset (bset (bset hB.out (p := ⟨g, 0, none⟩) (by have := HG.out; simp; omega) _) (p := ⟨g, 1, none⟩) (by have := HG.out; simp; omega) _) (p := ⟨g, 2, none⟩) (by have := HG.out; simp; omega) _

end Go.Proofs.YtoceogdpkfcghaaDoor
