/- The contracts of slices.ContainsFunc for any closure that captures one variable, and of nodeset.Meeting. -/
import Derived.Test.YtnfdacfhhkahhaaB5
namespace Go.Proofs.Ytnfdacfhhkahhaa
set_option linter.unusedVariables false
set_option linter.unusedSimpArgs false
open Go.RowKit

theorem mAt {w : World} {o : Obj} {k : Nat} (h : w.heap.size = k) : (w.alloc o).heap[k]? = some o := by rw [← h]; exact heap_alloc_new _ _

theorem mOn {w : World} {o v : Obj} {k : Nat} (h : w.heap[k]? = some v) : (w.alloc o).heap[k]? = some v := by
  have hl : k < w.heap.size := by
    rcases Nat.lt_or_ge k w.heap.size with h1 | h1
    · exact h1
    · rw [Array.getElem?_eq_none h1] at h; cases h
  exact (heap_alloc_old _ _ hl).trans h

theorem mSz (w : World) (o : Obj) : (w.alloc o).heap.size = w.heap.size + 1 := by simp

set_option maxHeartbeats 1000000 in
theorem indexG_run (G tb : Nat) (p : Nat → Bool) (P : Nat → Prop) (v : Value) (ls : List Nat) (w : World) (eg : ∀ args w, (callFunc G args).run Try.prog w = .ok (.enter G args) w) (hlen : ls.length ≤ 100000) (hN : NodesAt P w v (zs ls))
    (hcl : ∀ x : Nat, x ∈ ls → ∀ W, Below w.heap.size w W → Calls Try.prog G #[.int .i64 (x : Int), .pointer (some ⟨tb, 0, none⟩)] W fun e w' => e = .returned (.bool (p x)) ∧ Below W.heap.size W w') :
    Calls Try.prog 63 #[v, .func (.func G) #[] #[.pointer (some ⟨tb, 0, none⟩)]] w fun e w' => (∃ i : Int, e = .returned (.int .i64 i) ∧ decide (0 ≤ i) = ls.any p) ∧ Below w.heap.size w w' := by
  obtain ⟨A, c, rfl, hN2⟩ := hN
  rw [zs_len] at hN2 ⊢
  have H := Lib.hid hN2
  have HCL := Lib.hid hcl
  clear hN2 hcl
  go_enter Try.func63, Try.ntmps63
  go_wp2_with fail
  go_loopw [8] (fun t W => ∃ k : Nat, k ≤ ls.length ∧ t = .int .i64 k ∧ Hid ((ls.take k).any p = false) ∧ Hid (Below w.heap.size w W)) (fun t _ => ls.length - (intOf t).toNat)
  case atStart => exact ⟨0, Nat.zero_le _, rfl, Lib.hid rfl, Lib.hid (bref _)⟩
  case round =>
    obtain ⟨k, hk, rfl, hA, hB⟩ := hrel
    by_cases hlt : k < ls.length
    · obtain ⟨b, off, rfl, hPb, hcc⟩ := H.out k hlt
      have hx0 : ls[k]? = some (ls.getD k 0) := by rw [List.getD_eq_getElem?_getD, List.getElem?_eq_getElem hlt]; rfl
      have hxm := List.mem_of_getElem? hx0
      rw [zs_get] at hcc
      have hc2 := (World.cell?_of_block (a := ⟨b, off + k, none⟩) (hB.out.block b (cell_lt hcc))).trans hcc
      have HTK := Lib.hid (show ls.take (k + 1) = ls.take k ++ [ls.getD k 0] by rw [List.take_add_one, hx0]; rfl)
      clear hx0 hPb hcc
      generalize ls.getD k 0 = x at *
      have HX := Lib.hid hxm
      clear hxm
      go_wp2_with fail
      refine (HCL.out x HX.out _ hB.out).mono ?_
      rintro e W5 ⟨rfl, hb5⟩
      have HB5 := Lib.hid (bstep hB.out hb5)
      clear hb5
      rcases (show p x = false ∨ p x = true by cases p x <;> simp) with hq | hq
      · have HQ := Lib.hid hq
        have HA2 := Lib.hid (show (ls.take (k + 1)).any p = false by rw [HTK.out, List.any_append, hA.out]; simp [hq])
        clear hq
        rw [HQ.out]
        go_wp2_with fail
        go_roundw
        case rel => exact ⟨k + 1, hlt, by go_num, HA2, HB5⟩
        case measure => simp [intOf]; omega
      · have HQ := Lib.hid hq
        have HA2 := Lib.hid (show ls.any p = true from List.any_eq_true.2 ⟨x, HX.out, hq⟩)
        clear hq
        rw [HQ.out]
        go_wp2_with fail
        go_ret
        exact ⟨⟨_, rfl, by rw [HA2.out]; exact decide_eq_true (by omega)⟩, HB5.out⟩
    · obtain rfl : k = ls.length := by omega
      have HA2 := Lib.hid (show ls.any p = false by have := hA.out; rwa [List.take_length] at this)
      go_wp2_with fail
      go_ret
      exact ⟨⟨_, rfl, by rw [HA2.out]; rfl⟩, hB.out⟩

set_option maxHeartbeats 1000000 in
theorem containsG_run (G tb : Nat) (p : Nat → Bool) (P : Nat → Prop) (v : Value) (ls : List Nat) (w : World) (eg : ∀ args w, (callFunc G args).run Try.prog w = .ok (.enter G args) w) (hlen : ls.length ≤ 100000) (hN : NodesAt P w v (zs ls))
    (hcl : ∀ x : Nat, x ∈ ls → ∀ W, Below w.heap.size w W → Calls Try.prog G #[.int .i64 (x : Int), .pointer (some ⟨tb, 0, none⟩)] W fun e w' => e = .returned (.bool (p x)) ∧ Below W.heap.size W w') :
    Calls Try.prog 37 #[v, .func (.func G) #[] #[.pointer (some ⟨tb, 0, none⟩)]] w fun e w' => e = .returned (.bool (ls.any p)) ∧ Below w.heap.size w w' := by
  have hN0 := hN
  obtain ⟨A, c, rfl, _⟩ := hN0
  have HI := Lib.hid (indexG_run G tb p P _ ls w eg hlen hN hcl)
  clear hN hcl
  go_enter Try.func37, Try.ntmps37
  go_wp2_with fail
  refine HI.out.mono ?_
  rintro e w2 ⟨⟨i, rfl, hi⟩, hb⟩
  have HQ := Lib.hid hi
  have HB := Lib.hid hb
  clear hi hb
  go_wp2_with fail
  go_ret
  exact ⟨by rw [← HQ.out]; rfl, HB.out⟩

/-- Does s meet all sets of the list, and has only nodes below n? -/
def meetB (n : Nat) (ls : List Nat) (s : Nat) : Bool := decide (s < 2 ^ n) && !ls.any (fun t => s &&& t == 0)

end Go.Proofs.Ytnfdacfhhkahhaa
