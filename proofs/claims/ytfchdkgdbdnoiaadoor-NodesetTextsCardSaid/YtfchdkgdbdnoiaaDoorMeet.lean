/- The contracts of slices.ContainsFunc for any closure that captures one variable, and of nodeset.Meeting. -/
import Derived.Test.YtfchdkgdbdnoiaaDoorFindG
import Derived.Test.YtfchdkgdbdnoiaaDoorNLeast
namespace Go.Proofs.YtfchdkgdbdnoiaaDoor
set_option linter.unusedVariables false
set_option linter.unusedSimpArgs false
open Go.RowKit

theorem mAt {w : World} {o : Obj} {k : Nat} (h : w.heap.size = k) : (w.alloc o).heap[k]? = some o := by rw [← h]; exact heap_alloc_new _ _

theorem mOn {w : World} {o v : Obj} {k : Nat} (h : w.heap[k]? = some v) : (w.alloc o).heap[k]? = some v := by
  have hl : k < w.heap.size := by
    rcases Nat.lt_or_ge k w.heap.size with h1 | h1
    · exact h1
    · rw [Array.getElem?_eq_none h1] at h; cases h
  exact (heap_alloc_old _ _ hl).trans h

theorem mSz (w : World) (o : Obj) : (w.alloc o).heap.size = w.heap.size + 1 := by simp

set_option maxHeartbeats 1000000 in
theorem indexG_run (G tb : Nat) (p : Nat → Bool) (P : Nat → Prop) (v : Value) (ls : List Nat) (w : World) (eg : ∀ args w, (callFunc G args).run Tryd.prog w = .ok (.enter G args) w) (hlen : ls.length ≤ 100000) (hN : NodesAt P w v (zs ls))
    (hcl : ∀ x : Nat, x ∈ ls → ∀ W, Below w.heap.size w W → Calls Tryd.prog G #[.int .i64 (x : Int), .pointer (some ⟨tb, 0, none⟩)] W fun e w' => e = .returned (.bool (p x)) ∧ Below W.heap.size W w') :
    Calls Tryd.prog 33 #[v, .func (.func G) #[] #[.pointer (some ⟨tb, 0, none⟩)]] w fun e w' => (∃ i : Int, e = .returned (.int .i64 i) ∧ decide (0 ≤ i) = ls.any p) ∧ Below w.heap.size w w' := by
  obtain ⟨A, c, rfl, hN2⟩ := hN
  rw [zs_len] at hN2 ⊢
  have H := Lib.hid hN2
  have HCL := Lib.hid hcl
  clear hN2 hcl
  go_enter Tryd.func33, Tryd.ntmps33
  go_wp2_with fail
  go_loopw [8] (fun t W => ∃ k : Nat, k ≤ ls.length ∧ t = .int .i64 k ∧ Hid ((ls.take k).any p = false) ∧ Hid (Below w.heap.size w W)) (fun t _ => ls.length - (intOf t).toNat)
  case atStart => exact ⟨0, Nat.zero_le _, rfl, Lib.hid rfl, Lib.hid (bref _)⟩
  case round =>
    obtain ⟨k, hk, rfl, hA, hB⟩ := hrel
    by_cases hlt : k < ls.length
    · obtain ⟨b, off, rfl, hPb, hcc⟩ := H.out k hlt
      have hx0 : ls[k]? = some (ls.getD k 0) := by rw [List.getD_eq_getElem?_getD, List.getElem?_eq_getElem hlt]; rfl
      have hxm := List.mem_of_getElem? hx0
      rw [zs_get] at hcc
      have hc2 := (World.cell?_of_block (a := ⟨b, off + k, none⟩) (hB.out.block b (cell_lt hcc))).trans hcc
      have HTK := Lib.hid (show ls.take (k + 1) = ls.take k ++ [ls.getD k 0] by rw [List.take_add_one, hx0]; rfl)
      clear hx0 hPb hcc
      generalize ls.getD k 0 = x at *
      have HX := Lib.hid hxm
      clear hxm
      go_wp2_with fail
      refine (HCL.out x HX.out _ hB.out).mono ?_
      rintro e W5 ⟨rfl, hb5⟩
      have HB5 := Lib.hid (bstep hB.out hb5)
      clear hb5
      rcases (show p x = false ∨ p x = true by cases p x <;> simp) with hq | hq
      · have HQ := Lib.hid hq
        have HA2 := Lib.hid (show (ls.take (k + 1)).any p = false by rw [HTK.out, List.any_append, hA.out]; simp [hq])
        clear hq
        rw [HQ.out]
        go_wp2_with fail
        go_roundw
        case rel => exact ⟨k + 1, hlt, by go_num, HA2, HB5⟩
        case measure => simp [intOf]; omega
      · have HQ := Lib.hid hq
        have HA2 := Lib.hid (show ls.any p = true from List.any_eq_true.2 ⟨x, HX.out, hq⟩)
        clear hq
        rw [HQ.out]
        go_wp2_with fail
        go_ret
        exact ⟨⟨_, rfl, by rw [HA2.out]; exact decide_eq_true (by omega)⟩, HB5.out⟩
    · obtain rfl : k = ls.length := by omega
      have HA2 := Lib.hid (show ls.any p = false by have := hA.out; rwa [List.take_length] at this)
      go_wp2_with fail
      go_ret
      exact ⟨⟨_, rfl, by rw [HA2.out]; rfl⟩, hB.out⟩

set_option maxHeartbeats 1000000 in
theorem containsG_run (G tb : Nat) (p : Nat → Bool) (P : Nat → Prop) (v : Value) (ls : List Nat) (w : World) (eg : ∀ args w, (callFunc G args).run Tryd.prog w = .ok (.enter G args) w) (hlen : ls.length ≤ 100000) (hN : NodesAt P w v (zs ls))
    (hcl : ∀ x : Nat, x ∈ ls → ∀ W, Below w.heap.size w W → Calls Tryd.prog G #[.int .i64 (x : Int), .pointer (some ⟨tb, 0, none⟩)] W fun e w' => e = .returned (.bool (p x)) ∧ Below W.heap.size W w') :
    Calls Tryd.prog 23 #[v, .func (.func G) #[] #[.pointer (some ⟨tb, 0, none⟩)]] w fun e w' => e = .returned (.bool (ls.any p)) ∧ Below w.heap.size w w' := by
  have hN0 := hN
  obtain ⟨A, c, rfl, _⟩ := hN0
  have HI := Lib.hid (indexG_run G tb p P _ ls w eg hlen hN hcl)
  clear hN hcl
  go_enter Tryd.func23, Tryd.ntmps23
  go_wp2_with fail
  refine HI.out.mono ?_
  rintro e w2 ⟨⟨i, rfl, hi⟩, hb⟩
  have HQ := Lib.hid hi
  have HB := Lib.hid hb
  clear hi hb
  go_wp2_with fail
  go_ret
  exact ⟨by rw [← HQ.out]; rfl, HB.out⟩

set_option maxHeartbeats 1000000 in
theorem meet1_run (t n : Nat) (nb : Nat) (hn : n ≤ 10) (ht : t < 2 ^ n) (w : World) (h : w.cell? ⟨nb, 0, none⟩ = some (.int .i64 (n : Int))) :
    Calls Tryd.prog 24 #[.int .i64 (t : Int), .pointer (some ⟨nb, 0, none⟩)] w fun e w' => e = .returned (.bool false) ∧ Below w.heap.size w w' := by
  have hp := pow11 n (by omega)
  obtain ⟨N, hN⟩ : ∃ N, 2 ^ n = N := ⟨_, rfl⟩
  rw [hN] at hp ht
  clear hN
  have hn0 : (0 : Int) ≤ (n : Int) := by omega
  have hn64 : ¬ (64 : Int) ≤ (n : Int) := by omega
  have q1 : ¬ (t : Int) < 0 := by omega
  have q2 : ¬ (N : Int) ≤ (t : Int) := by omega
  go_enter Tryd.func24, Tryd.ntmps24
  go_wp2_with fail
  go_ret
  exact ⟨rfl, bref _⟩

set_option maxHeartbeats 1000000 in
theorem meet21_run (t s : Nat) (sb : Nat) (ht : t < 1024) (hs : s < 1024) (w : World) (h : w.cell? ⟨sb, 0, none⟩ = some (.int .i64 (s : Int))) :
    Calls Tryd.prog 27 #[.int .i64 (t : Int), .pointer (some ⟨sb, 0, none⟩)] w fun e w' => e = .returned (.bool (s &&& t == 0)) ∧ Below w.heap.size w w' := by
  have q1 := i64_and_nat s t (by omega) (by omega)
  have HQ := Lib.hid (show (((s &&& t : Nat) : Int) == 0) = (s &&& t == 0) from by
    rw [Bool.eq_iff_iff]; simp only [beq_iff_eq]; omega)
  go_enter Tryd.func27, Tryd.ntmps27
  go_wp2_with fail
  go_ret
  exact ⟨by rw [← HQ.out]; rfl, bref _⟩

theorem enters_m21 : ∀ args w, (callFunc 27 args).run Tryd.prog w = .ok (.enter 27 args) w := enters_of Tryd.func27 (by kernel_rfl) rfl

theorem enters_m2 : ∀ args w, (callFunc 26 args).run Tryd.prog w = .ok (.enter 26 args) w := enters_of Tryd.func26 (by kernel_rfl) rfl

theorem enters_m1 : ∀ args w, (callFunc 24 args).run Tryd.prog w = .ok (.enter 24 args) w := enters_of Tryd.func24 (by kernel_rfl) rfl

set_option maxHeartbeats 1000000 in
theorem meet2_run (P : Nat → Prop) (A : Option Addr) (n c : Nat) (ls : List Nat) (lb s : Nat) (hl : ∀ t ∈ ls, t < 1024) (hlen : ls.length ≤ 1024) (hs : s < 1024) (w : World) (h : w.cell? ⟨lb, 0, none⟩ = some (.slice A n c)) (hN : NodesAt P w (.slice A n c) (zs ls)) :
    Calls Tryd.prog 26 #[.int .i64 (s : Int), .pointer (some ⟨lb, 0, none⟩)] w fun e w' => e = .returned (.bool (!ls.any (fun t => s &&& t == 0))) ∧ Below w.heap.size w w' := by
  have hba := balloc (bref w) (.cells #[.int .i64 (s : Int)] 3)
  have hcs : (w.alloc (.cells #[.int .i64 (s : Int)] 3)).cell? ⟨w.heap.size, 0, none⟩ = some (.int .i64 (s : Int)) := cell_of_row _ _ 0 _ _ (0, 0) (heap_alloc_new _ _)
  have hcl := (hba.cell (cell_lt h)).trans h
  have HC := Lib.hid (containsG_run 27 w.heap.size (fun t => s &&& t == 0) P (.slice A n c) ls (w.alloc (.cells #[.int .i64 (s : Int)] 3)) enters_m21 (by omega) (hN.below hba) (fun x hx W hB => meet21_run x s w.heap.size (hl x hx) hs W ((hB.cell (cell_lt hcs)).trans hcs)))
  have HBA := Lib.hid hba
  clear hN hl hcs
  go_enter Tryd.func26, Tryd.ntmps26
  go_wp2_with fail
  refine HC.out.mono ?_
  rintro e w2 ⟨rfl, hb⟩
  have HB := Lib.hid (bstep HBA.out hb)
  clear hb
  go_wp2_with fail
  go_ret
  exact ⟨rfl, HB.out⟩

/-- Does s meet all sets of the list, and has only nodes below n? -/
def meetB (n : Nat) (ls : List Nat) (s : Nat) : Bool := decide (s < 2 ^ n) && !ls.any (fun t => s &&& t == 0)

set_option maxRecDepth 100000 in
set_option maxHeartbeats 4000000 in
theorem pmeeting_run (P : Nat → Prop) (v : Value) (ls : List Nat) (n : Nat) (hn : n ≤ 10) (hl : ∀ t ∈ ls, t < 2 ^ n) (hlen : ls.length ≤ 1024) (w : World) (hN : NodesAt P w v (zs ls)) :
    Calls Tryd.prog 15 #[v, .int .i64 (n : Int)] w fun e w' => ∃ v' m, e = .returned (.tuple #[v', .int .i64 0]) ∧ w'.ownsRow w.heap.size 3 1 v' m.length ((zs m).map (Value.int .i64)) ∧ IsLeast (meetB n ls) m ∧ Below w.heap.size w w' := by
  have h10 : 2 ^ n ≤ 2 ^ 10 := Nat.pow_le_pow_right (by omega) hn
  have hl10 : ∀ t ∈ ls, t < 1024 := fun t ht => Nat.lt_of_lt_of_le (hl t ht) h10
  obtain ⟨A, c, rfl, _⟩ := id hN
  rw [zs_len]
  obtain ⟨L, hL⟩ : ∃ L, ls.length = L := ⟨_, rfl⟩
  have HN0 := Lib.hid (show NodesAt P w (.slice A L c) (zs ls) by rw [← hL, ← zs_len ls]; exact hN)
  have hL10 : L ≤ 1024 := by omega
  rw [hL]
  have hb2 := balloc (balloc (bref w) (.cells #[.slice A L c] 28)) (.cells #[.int .i64 (n : Int)] 3)
  have k1 : ((w.alloc (.cells #[.slice A L c] 28)).alloc (.cells #[.int .i64 (n : Int)] 3)).cell? ⟨w.heap.size, 0, none⟩ = some (.slice A L c) := cell_of_row _ _ 0 _ _ (0, 0) (mOn (mAt rfl))
  have k2 : ((w.alloc (.cells #[.slice A L c] 28)).alloc (.cells #[.int .i64 (n : Int)] 3)).cell? ⟨w.heap.size + 1, 0, none⟩ = some (.int .i64 (n : Int)) := cell_of_row _ _ 0 _ _ (0, 0) (mAt (mSz _ _))
  have HN2 := Lib.hid (HN0.out.below hb2)
  have HB2 := Lib.hid hb2
  have HL := Lib.hid hL
  have HLN := Lib.hid hl
  have HL10 := Lib.hid hl10
  clear hN hb2 hL hl hl10 HN0
  go_enter Tryd.func15, Tryd.ntmps15
  go_upto_region 1 with fail
  generalize (w.alloc (.cells #[.slice A L c] 28)).alloc (.cells #[.int .i64 (n : Int)] 3) = W1 at *
  generalize hg : w.heap.size = g at *
  have HG := Lib.hid hg
  clear hg
  have q1 : ¬ (n : Int) < 0 := by omega
  have q2 : ¬ (10 : Int) < (n : Int) := by omega
  go_wp2_with fail
  refine (containsG_run 24 (g + 1) (fun _ => false) P _ ls _ enters_m1 (by have := HL.out; omega) HN2.out (fun x hx W hB => meet1_run x n (g + 1) hn (HLN.out x hx) W ((hB.cell (cell_lt k2)).trans k2))).mono ?_
  rintro e W3 ⟨rfl, hb3⟩
  rw [show ls.any (fun _ => false) = false by simp]
  have j1 := (hb3.cell (cell_lt k1)).trans k1
  have j2 := (hb3.cell (cell_lt k2)).trans k2
  have HN3 := Lib.hid (HN2.out.below hb3)
  have HB3 := Lib.hid hb3
  have q3 : ¬ (1024 : Int) < (L : Int) := by omega
  clear hb3 k1 k2 HN2
  go_wp2_with fail
  refine (findG_run 26 g n hn (fun s => !ls.any (fun t => s &&& t == 0)) _ enters_m2 (fun s hs W hB => meet2_run P A L c ls g s HL10.out (by have := HL.out; omega) (Nat.lt_of_lt_of_le hs h10) W ((hB.cell (cell_lt j1)).trans j1) (HN3.out.below hB))).mono ?_
  rintro e W4 ⟨vf, F, rfl, hof, hF, hb4⟩
  have HN4 := Lib.hid (NodesAt.of_ownZ hof)
  have HFL := Lib.hid hF.2.2
  have HFE := Lib.hid (show pz (zs F) = meetB n ls from by
    funext t
    rw [Bool.eq_iff_iff, pz_iff]
    unfold zs meetB
    rw [List.mem_map, Bool.and_eq_true, decide_eq_true_iff]
    constructor
    · rintro ⟨_, x, hx, e⟩
      obtain rfl := Int.ofNat.inj e
      exact (hF.2.1 x).1 hx
    · intro h
      exact ⟨by omega, t, (hF.2.1 t).2 h, rfl⟩)
  have HB4 := Lib.hid hb4
  obtain ⟨Af, cf, hvf⟩ := own_slice hof
  subst hvf
  clear hof hF hb4 j1 j2 HN3
  go_wp2_with fail
  refine (pleast_run _ _ (zs F) _ (by rw [zs_len]; have := HFL.out; omega) HN4.out).mono ?_
  rintro e W5 ⟨v5, m, rfl, ho5, hm5, hb5⟩
  rw [HFE.out] at hm5
  have HR := Lib.hid (show W5.ownsRow w.heap.size 3 1 v5 m.length ((zs m).map (Value.int .i64)) ∧ IsLeast (meetB n ls) m ∧ Below w.heap.size w W5 from by
    have h0 := HB2.out
    rw [← HG.out] at h0
    have h1 := bstep (bstep h0 HB3.out) HB4.out
    refine ⟨⟨ho5.1, ?_⟩, hm5, bstep h1 hb5⟩
    rcases ho5.2 with h2 | ⟨gg, cap, cur, e1, e2, e3⟩
    · exact .inl h2
    · exact .inr ⟨gg, cap, cur, e1, Nat.le_trans h1.size e2, e3⟩)
  obtain ⟨A5, c5, hv5⟩ := own_slice ho5
  subst hv5
  clear ho5 hm5 hb5
  go_wp2_with fail
  go_ret2
  exact ⟨_, m, rfl, by rw [← HG.out]; exact HR.out⟩

end Go.Proofs.YtfchdkgdbdnoiaaDoor
