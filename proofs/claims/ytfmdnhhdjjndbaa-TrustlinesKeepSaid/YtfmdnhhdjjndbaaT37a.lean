/- Package trustlines: keys, and where the line with a key stands. -/
import Derived.Test.YtfmdnhhdjjndbaaA36d
import Derived.Test.YtfmdnhhdjjndbaaAsset2
namespace Go.Proofs.Ytfmdnhhdjjndbaa
set_option linter.unusedVariables false
set_option linter.unusedSimpArgs false
open Go.RowKit

/-- A line's key. -/
def valK (i : Int) (s : Nat) : Value := .agg #[.int .i64 i, .string (codeOf s), .int .i64 (issOf s)]

set_option maxHeartbeats 1000000 in
theorem tnative_run (a : Nat) (w : World) (ha : a ≤ 2) :
    Calls Try.prog 77 #[valS a] w fun e w' => e = .returned (.bool (a == 0)) ∧ Below w.heap.size w w' := by
  unfold valS
  match a, ha with
  | 0, _ | 1, _ | 2, _ =>
    unfold codeOf issOf
    go_enter Try.func77, Try.ntmps77
    go_wp2
    go_ret
    exact ⟨rfl, balloc (bref _) _⟩

set_option maxHeartbeats 4000000 in
theorem tasset_run (a : Nat) (w : World) (ha : a ≤ 2) :
    Calls Try.prog 76 #[valS a] w fun e w' => e = .returned (.bool true) ∧ Below w.heap.size w w' := by
  match a, ha with
  | 0, _ =>
    have HN := Lib.hid (fun W => tnative_run 0 W (by omega))
    unfold valS codeOf issOf at *
    go_enter Try.func76, Try.ntmps76
    go_wp2_with fail
    refine (HN.out _).mono ?_
    rintro e w2 ⟨rfl, hb2⟩
    have HB2 := Lib.hid (bstep (balloc (bref w) (.cells #[.string ⟨#[]⟩, .int .i64 0] 49)) hb2)
    clear hb2
    go_wp2_with fail
    go_ret
    exact ⟨rfl, HB2.out⟩
  | 1, _ => exact asset_usd w
  | 2, _ => exact asset_eur w

set_option maxHeartbeats 1000000 in
theorem keyOf_run (l : Lin) (w : World) : Calls Try.prog 56 #[valL l] w fun e w' => e = .returned (valK l.acc l.ast) ∧ Below w.heap.size w w' := by
  unfold valL valK
  go_enter Try.func56, Try.ntmps56
  go_wp2_with fail
  refine bodyPost_ret (v := .agg #[.int .i64 l.acc, .string (codeOf l.ast), .int .i64 (issOf l.ast)]) ?_ rfl ⟨rfl, ?_⟩
  · simp [results, Try.results56, go_sem]
  · repeat (first | exact bref _ | refine bset ?_ (by show _ ≤ _; simp) _ | refine balloc ?_ _)

set_option maxHeartbeats 4000000 in
theorem kbefore_run (i j : Int) (s t : Nat) (w : World) (hs : s ≤ 2) (ht : t ≤ 2) :
    Calls Try.prog 57 #[valK i s, valK j t] w fun e w' => e = .returned (.bool (decide (i < j) || (i == j && lessA s t))) ∧ Below w.heap.size w w' := by
  have HLS := Lib.hid (fun W => lessA_run s t W hs ht)
  have HB0 := Lib.hid (balloc (balloc (bref w) (.cells #[.int .i64 i, .string (codeOf s), .int .i64 (issOf s)] 90)) (.cells #[.int .i64 j, .string (codeOf t), .int .i64 (issOf t)] 90))
  unfold valK
  rcases Decidable.em (i = j) with h | h
  · have HR := Lib.hid (show (decide (i < j) || (i == j && lessA s t)) = lessA s t by subst h; simp)
    have q0 : (i != j) = false := by simp [h]
    clear h
    go_enter Try.func57, Try.ntmps57
    go_wp2_with fail
    refine (HLS.out _).mono ?_
    rintro e w2 ⟨rfl, hb2⟩
    have HB2 := Lib.hid (bstep HB0.out hb2)
    clear hb2
    go_wp2_with fail
    go_ret
    exact ⟨by rw [HR.out]; rfl, HB2.out⟩
  · have HR := Lib.hid (show (decide (i < j) || (i == j && lessA s t)) = decide (i < j) by simp [h])
    have q0 : (i != j) = true := by simpa using h
    clear h
    go_enter Try.func57, Try.ntmps57
    go_wp2_with fail
    go_ret
    exact ⟨by rw [HR.out]; rfl, HB0.out⟩

set_option maxHeartbeats 4000000 in
theorem foreign_run (i : Int) (s : Nat) (w : World) (hs : s ≤ 2) :
    Calls Try.prog 58 #[valS s, .int .i64 i] w fun e w' => e = .returned (.bool (s != 0 && issOf s != i)) ∧ Below w.heap.size w w' := by
  have HAS := Lib.hid (fun W => tasset_run s W hs)
  have HNA := Lib.hid (fun W => tnative_run s W hs)
  have HB0 := Lib.hid (balloc (bref w) (.cells #[.string (codeOf s), .int .i64 (issOf s)] 49))
  have HX0 := Lib.hid (box2 w 49 (.string (codeOf s)) (.int .i64 (issOf s)))
  unfold valS at *
  go_enter Try.func58, Try.ntmps58
  go_wp2_with fail
  refine (HAS.out _).mono ?_
  rintro e w2 ⟨rfl, hb2⟩
  have HX2 := Lib.hid (HX0.out.below hb2)
  have HB2 := Lib.hid (bstep HB0.out hb2)
  clear hb2
  obtain ⟨c0, c1, _⟩ := HX2.out
  go_wp2_with fail
  refine (HNA.out _).mono ?_
  rintro e w3 ⟨rfl, hb3⟩
  have HX3 := Lib.hid (HX2.out.below hb3)
  have HB3 := Lib.hid (bstep HB2.out hb3)
  clear hb3 c0 c1
  obtain ⟨c0, c1, _⟩ := HX3.out
  rcases Decidable.em (s = 0) with h | h
  · have HR := Lib.hid (show (s != 0 && issOf s != i) = false by subst h; rfl)
    rw [show (s == 0) = true by simpa using h]
    clear h
    go_wp2_with fail
    go_ret
    exact ⟨by rw [HR.out]; rfl, HB3.out⟩
  · have HR := Lib.hid (show (s != 0 && issOf s != i) = (issOf s != i) by simp [h])
    rw [show (s == 0) = false by simpa using h]
    clear h
    go_wp2_with fail
    go_ret
    exact ⟨by rw [HR.out]; rfl, HB3.out⟩

set_option maxRecDepth 100000 in
set_option maxHeartbeats 4000000 in
theorem ixL_run (P : Nat → Prop) (G : Nat) (caps : Array Value) (p : Lin → Bool) (L : List Lin) (v : Value) (w : World) (hlen : L.length ≤ 1000) (h : LinAt P w v L) (eg : ∀ args w, (callFunc G args).run Try.prog w = .ok (.enter G args) w)
    (hcl : ∀ (a : Lin) (W : World), a ∈ L → Below w.heap.size w W → Calls Try.prog G (#[.agg #[.int .i64 a.acc, .string (codeOf a.ast), .int .i64 (issOf a.ast), .int .i64 a.bal, .int .i64 a.lim]] ++ caps) W fun e w' => e = .returned (.bool (p a)) ∧ Below W.heap.size W w') :
    Calls Try.prog 81 #[v, .func (.func G) #[] caps] w fun e w' => ∃ r : Int, e = .returned (.int .i64 r) ∧ Hid (r = ixG p L) ∧ Below w.heap.size w w' := by
  obtain ⟨A, c, rfl, hc, hm⟩ := h.slice
  have H := Lib.hid h
  obtain ⟨n, hn⟩ : ∃ n, L.length = n := ⟨_, rfl⟩
  rw [hn] at hlen H hc ⊢
  have HN := Lib.hid hn
  have HCL := Lib.hid hcl
  clear h hn hcl
  go_enter Try.func81, Try.ntmps81
  go_wp2_with fail
  go_loopw [8] (fun t W => ∃ k : Nat, k ≤ n ∧ t = .int .i64 k ∧ Hid (∀ (j : Nat) (a : Lin), j < k → L[j]? = some a → p a = false) ∧ Hid (Below w.heap.size w W)) (fun t _ => n - (intOf t).toNat)
  case atStart => exact ⟨0, by omega, rfl, Lib.hid (fun j a hj => by omega), Lib.hid (bref _)⟩
  case round =>
    obtain ⟨k, hk, rfl, hF, hB⟩ := hrel
    by_cases hlt : k < n
    · obtain ⟨a, ha⟩ : ∃ a, L[k]? = some a := ⟨_, List.getElem?_eq_getElem (by rw [HN.out]; exact hlt)⟩
      obtain ⟨b, off, rfl, hP, hbl, d0, d1, d2, d3, d4⟩ := linBox (H.out.below hB.out) ha
      have HA := Lib.hid ha
      clear ha
      go_wp2_with fail
      refine (HCL.out a _ (List.mem_of_getElem? HA.out) hB.out).mono ?_
      rintro e w2 ⟨rfl, hb2⟩
      have HB2 := Lib.hid (bstep hB.out hb2)
      clear hb2 d0 d1 d2 d3 d4
      rcases (show p a = false ∨ p a = true by cases p a <;> simp) with hp | hp
      · have HF2 := Lib.hid (show ∀ (j : Nat) (x : Lin), j < k + 1 → L[j]? = some x → p x = false from fun j x hj hx => by
          rcases Nat.lt_or_ge j k with h1 | h1
          · exact hF.out j x h1 hx
          · obtain rfl : j = k := by omega
            rw [HA.out] at hx
            cases hx
            exact hp)
        rw [hp]
        clear hp
        go_wp2_with fail
        go_roundw
        case rel => exact ⟨k + 1, by omega, by go_num, HF2, HB2⟩
        case measure => simp [intOf]; omega
      · have HR := Lib.hid (show ((k : Nat) : Int) = ixG p L from (ixG_at HA.out hp hF.out).symm)
        rw [hp]
        clear hp
        go_wp2_with fail
        go_ret
        exact ⟨_, rfl, HR, HB2.out⟩
    · obtain rfl : k = n := by omega
      have HR := Lib.hid (show (-1 : Int) = ixG p L from (ixG_no (fun j a ha => hF.out j a (by rw [← HN.out]; exact (List.getElem?_eq_some_iff.1 ha).1) ha)).symm)
      go_wp2_with fail
      go_ret
      exact ⟨_, rfl, HR, hB.out⟩


end Go.Proofs.Ytfmdnhhdjjndbaa
