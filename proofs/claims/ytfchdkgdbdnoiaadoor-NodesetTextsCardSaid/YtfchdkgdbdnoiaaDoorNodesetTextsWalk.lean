/- The walk of the law NodesetTexts. -/
import Derived.Test.YtfchdkgdbdnoiaaDoorAwake01
import Derived.Test.YtfchdkgdbdnoiaaDoorParse01
import Derived.Test.YtfchdkgdbdnoiaaDoorOf
namespace Go.Proofs.YtfchdkgdbdnoiaaDoor
set_option linter.unusedVariables false
set_option linter.unusedSimpArgs false
open Go.RowKit

theorem nodN_inr (s : Nat) : InR (zs (nodN s 10)) := fun x hx => by
  unfold zs at hx
  obtain ⟨a, h1, h2⟩ := List.mem_map.1 hx
  have := nodN_lt h1
  omega
theorem nodN_nodup (s : Nat) : (zs (nodN s 10)).Nodup := by
  have h : (nodN s 10).Nodup := List.nodup_iff_pairwise_ne.2 ((List.nodup_iff_pairwise_ne.1 List.nodup_range).filter _)
  unfold zs
  refine List.nodup_iff_pairwise_ne.2 (List.Pairwise.map _ (fun a b hab => ?_) (List.nodup_iff_pairwise_ne.1 h))
  intro e
  exact hab (by omega)

set_option maxRecDepth 100000 in
set_option maxHeartbeats 4000000 in
theorem walkNodesetTexts (a0 : Int) (a1 : Int) (w0 : (Lit.int .u16 a0).wf = true) (w1 : (Lit.int .u16 a1).wf = true) (w : World) :
    Calls Tryd.prog 3 #[.int .u16 a0, .int .u16 a1] w fun e w' => e = .returned (.bool true) ∧ Below w.heap.size w w' := by
  obtain ⟨x0, x1⟩ := bounds_u16 w0
  obtain ⟨y0, y1⟩ := bounds_u16 w1
  clear w0 w1
  obtain ⟨x, hx⟩ : ∃ n : Nat, a0 % 1024 = (n : Int) := ⟨(a0 % 1024).toNat, by omega⟩
  obtain ⟨y, hy⟩ : ∃ n : Nat, a1 % 1024 = (n : Int) := ⟨(a1 % 1024).toNat, by omega⟩
  have hx1 : x < 1024 := by omega
  have hy1 : y < 1024 := by omega
  have c1 : IntKind.i64.wrap a0 = a0 := IntWalk.i64_in _ (by omega)
  have c2 : IntKind.i64.wrap a1 = a1 := IntWalk.i64_in _ (by omega)
  have HTX := Lib.hid (fun W => ptext_run x W hx1)
  have HTY := Lib.hid (fun W => ptext_run y W hy1)
  have HPX := Lib.hid (fun W => pparse_run x hx1 W)
  have HNX := Lib.hid (fun W => pnodN_run x W hx1)
  have HNB := Lib.hid (nodes_back x hx1)
  have HIR := Lib.hid (nodN_inr x)
  have HND := Lib.hid (nodN_nodup x)
  have hnl := nodN_len x 10
  have hEQ : textN x = textN y ↔ x = y := ⟨text_inj hx1 hy1, fun h => by rw [h]⟩
  generalize textN x = tx at *
  generalize textN y = ty at *
  generalize nodN x 10 = l at *
  go_enter Tryd.func3, Tryd.ntmps3
  go_wp2_with fail
  refine (HTX.out _).mono ?_
  rintro e w1 ⟨rfl, hb1⟩
  have HB1 := Lib.hid hb1
  clear hb1
  go_wp2_with fail
  refine (HPX.out _).mono ?_
  rintro e w2 ⟨rfl, hb2⟩
  have HB2 := Lib.hid (bstep HB1.out hb2)
  clear hb2 HB1
  go_wp2_with fail
  refine (HNX.out _).mono ?_
  rintro e w3 ⟨v3, rfl, ho3, hb3⟩
  have HB3 := Lib.hid (bstep HB2.out hb3)
  obtain ⟨A, c, hv, hcells⟩ := NodesAt.of_ownZ ho3
  subst hv
  rw [zs_len] at hcells ⊢
  have HCE := Lib.hid hcells
  clear hb3 HB2 ho3 hcells
  go_wp2_with fail
  have h3 := pof_run A c (zs l) w3 (by rw [zs_len]; omega) HIR.out HND.out (fun k hk => by
    obtain ⟨b, off, e1, _, e2⟩ := HCE.out k (by rw [zs_len] at hk; exact hk)
    exact ⟨b, off, e1, e2⟩)
  rw [zs_len, HNB.out] at h3
  refine h3.mono ?_
  rintro e w4 ⟨rfl, rfl⟩
  clear h3 HCE HIR HND hx hy c1 c2 x0 x1 y0 y1
  have xx : ((x : Int) == (x : Int)) = true := by simp
  rcases (show x = y ∨ x ≠ y by omega) with rfl | hne
  · obtain rfl : tx = ty := hEQ.2 rfl
    clear hEQ
    go_wp2_with fail
    refine (HTX.out _).mono ?_
    rintro e w5 ⟨rfl, hb5⟩
    have HB5 := Lib.hid (bstep HB3.out hb5)
    clear hb5 HB3
    go_wp2_with fail
    refine (HTX.out _).mono ?_
    rintro e w6 ⟨rfl, hb6⟩
    have HB6 := Lib.hid (bstep HB5.out hb6)
    clear hb6 HB5
    go_wp2_with fail
    refine (awake01 _).mono ?_
    rintro e w7 ⟨rfl, hb7⟩
    have HB7 := Lib.hid (bstep HB6.out hb7)
    clear hb7 HB6
    go_wp2_with fail
    go_ret
    exact ⟨rfl, HB7.out⟩
  · have e1 : ((x : Int) == (y : Int)) = false := by rw [beq_eq_false_iff_ne]; omega
    have e3 : tx ≠ ty := fun h => hne (hEQ.1 h)
    have e4 : (!(tx == ty)) = true := by rw [beq_eq_false_iff_ne.2 e3]; rfl
    have e2 : ((⟨tx.toArray⟩ : ByteArray) = ⟨ty.toArray⟩) = False := by
      apply eq_false
      intro h
      have h1 := congrArg (fun b : ByteArray => b.data.toList) h
      exact hne (hEQ.1 (by simpa using h1))
    clear hEQ hne
    go_wp2_with fail
    refine (HTX.out _).mono ?_
    rintro e w5 ⟨rfl, hb5⟩
    have HB5 := Lib.hid (bstep HB3.out hb5)
    clear hb5 HB3
    go_wp2_with fail
    refine (HTY.out _).mono ?_
    rintro e w6 ⟨rfl, hb6⟩
    have HB6 := Lib.hid (bstep HB5.out hb6)
    clear hb6 HB5
    go_wp2_with fail
    refine (awake01 _).mono ?_
    rintro e w7 ⟨rfl, hb7⟩
    have HB7 := Lib.hid (bstep HB6.out hb7)
    clear hb7 HB6
    go_wp2_with fail
    go_ret
    exact ⟨rfl, HB7.out⟩
end Go.Proofs.YtfchdkgdbdnoiaaDoor
