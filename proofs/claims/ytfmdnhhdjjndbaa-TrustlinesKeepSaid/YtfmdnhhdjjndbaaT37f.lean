/- Package trustlines: Issued. -/
import Derived.Test.YtfmdnhhdjjndbaaT37c
namespace Go.Proofs.Ytfmdnhhdjjndbaa
set_option linter.unusedVariables false
set_option linter.unusedSimpArgs false
open Go.RowKit

/-- What all lines together hold of an asset. -/
def issT (s : Nat) : List Lin → Int
  | [] => 0
  | l :: r => (if l.ast = s then l.bal else 0) + issT s r

theorem issT_app (s : Nat) : ∀ (l m : List Lin), issT s (l ++ m) = issT s l + issT s m
  | [], m => by simp [issT]
  | a :: l, m => by
    show (if a.ast = s then a.bal else 0) + issT s (l ++ m) = (if a.ast = s then a.bal else 0) + issT s l + issT s m
    rw [issT_app s l m]
    omega

theorem issT_take {s : Nat} {L : List Lin} {k : Nat} {a : Lin} (h : L[k]? = some a) : issT s (L.take (k + 1)) = issT s (L.take k) + (if a.ast = s then a.bal else 0) := by
  rw [List.take_add_one, h, issT_app]
  simp [issT]

theorem issT_bd {s : Nat} {L : List Lin} (h : ∀ (k : Nat) (a : Lin), L[k]? = some a → 0 ≤ a.bal ∧ a.bal ≤ 1000000000000) : ∀ (k : Nat), 0 ≤ issT s (L.take k) ∧ issT s (L.take k) ≤ (k : Int) * 1000000000000
  | 0 => by simp [issT]
  | k + 1 => by
    have ih := issT_bd (s := s) h k
    rcases hq : L[k]? with _ | a
    · have h1 : L.length ≤ k := by
        rcases Nat.lt_or_ge k L.length with h1 | h1
        · rw [List.getElem?_eq_getElem h1] at hq; cases hq
        · exact h1
      rw [List.take_of_length_le (by omega)]
      rw [List.take_of_length_le h1] at ih
      omega
    · have h1 := h k a hq
      rw [issT_take hq]
      split <;> omega

set_option maxRecDepth 100000 in
set_option maxHeartbeats 4000000 in
theorem issued_run (P : Nat → Prop) (L : List Lin) (s : Nat) (v : Value) (w : World) (hs : s ≤ 2) (hL : ∀ (k : Nat) (a : Lin), L[k]? = some a → a.ast ≤ 2 ∧ 0 ≤ a.bal ∧ a.bal ≤ 1000000000000) (hlen : L.length ≤ 60) (h : LinAt P w v L) :
    Calls Try.prog 29 #[v, valS s] w fun e w' => e = .returned (.int .i64 (issT s L)) ∧ Below w.heap.size w w' := by
  obtain ⟨A, c, rfl, hc, hm⟩ := h.slice
  have hba := balloc (bref w) (.cells #[.string (codeOf s), .int .i64 (issOf s)] 49)
  have HK0 := Lib.hid (box2 w 49 (.string (codeOf s)) (.int .i64 (issOf s)))
  have H := Lib.hid (h.below hba)
  have HB0 := Lib.hid hba
  have HBD := Lib.hid (issT_bd (s := s) (L := L) (fun k a ha => (hL k a ha).2))
  have HLL := Lib.hid hL
  have HT := Lib.hid (show issT s (L.take L.length) = issT s L by rw [List.take_length])
  obtain ⟨n, hn⟩ : ∃ n, L.length = n := ⟨_, rfl⟩
  rw [hn] at hlen H hc HT
  have HN := Lib.hid hn
  rw [hn]
  unfold valS
  clear h hba hn hL
  go_enter Try.func29, Try.ntmps29
  go_upto_region 1 with fail
  generalize w.alloc (.cells #[.string (codeOf s), .int .i64 (issOf s)] 49) = W1 at *
  generalize hg : w.heap.size = gg at *
  have HG := Lib.hid hg
  clear hg
  go_wp2_with fail
  go_loopw [5, 10] (fun u t W => ∃ k : Nat, k ≤ n ∧ t = .int .i64 k ∧ u = .int .i64 (issT s (L.take k)) ∧ Hid (Below W1.heap.size W1 W)) (fun _ t _ => n - (intOf t).toNat)
  case atStart => exact ⟨0, by omega, rfl, rfl, Lib.hid (bref _)⟩
  case round =>
    obtain ⟨k, hk, rfl, rfl, hB⟩ := hrel
    by_cases hlt : k < n
    · obtain ⟨a, ha⟩ : ∃ a, L[k]? = some a := ⟨_, List.getElem?_eq_getElem (by rw [HN.out]; exact hlt)⟩
      obtain ⟨b, off, rfl, hP, hbl, d0, d1, d2, d3, d4⟩ := linBox (H.out.below hB.out) ha
      have hLL := HLL.out k a ha
      have htk := issT_take (s := s) ha
      have hb := HBD.out k
      have hkk : (k : Int) * 1000000000000 ≤ 60 * 1000000000000 := by omega
      obtain ⟨T, hT⟩ : ∃ T, issT s (L.take k) = T := ⟨_, rfl⟩
      rw [hT] at htk hb ⊢
      have HTK := Lib.hid htk
      have hce := code_eq hLL.1 hs
      have hie := iss_eq hLL.1 hs
      have HB1 := Lib.hid (balloc hB.out (.cells #[.int .i64 a.acc, .string (codeOf a.ast), .int .i64 (issOf a.ast), .int .i64 a.bal, .int .i64 a.lim] 51))
      have HBX := Lib.hid (box5 wr 51 (.int .i64 a.acc) (.string (codeOf a.ast)) (.int .i64 (issOf a.ast)) (.int .i64 a.bal) (.int .i64 a.lim))
      have HKX := Lib.hid (HK0.out.below HB1.out)
      clear ha hT htk
      go_upto_region 5 with fail
      clear d0 d1 d2 d3 d4
      generalize wr.alloc (.cells #[.int .i64 a.acc, .string (codeOf a.ast), .int .i64 (issOf a.ast), .int .i64 a.bal, .int .i64 a.lim] 51) = W2 at *
      generalize wr.heap.size = tb at *
      obtain ⟨x0, x1, x2, x3, x4, _⟩ := HBX.out
      obtain ⟨y0, y1, _⟩ := HKX.out
      by_cases hes : a.ast = s
      · rw [show (a.ast == s) = true by simpa using hes] at hce hie
        have HES := Lib.hid hes
        clear hes
        go_wp2_with fail
        go_roundw
        case rel => exact ⟨k + 1, by omega, by go_num, by rw [HTK.out, if_pos HES.out], HB1⟩
        case measure => simp [intOf]; omega
      · rw [show (a.ast == s) = false by simpa using hes] at hce hie
        have HES := Lib.hid hes
        clear hes
        go_wp2_with fail
        go_roundw
        case rel => exact ⟨k + 1, by omega, by go_num, by rw [HTK.out, if_neg HES.out, Int.add_zero], HB1⟩
        case measure => simp [intOf]; omega
    · obtain rfl : k = n := by omega
      go_wp2_with fail
      go_ret
      exact ⟨by rw [HT.out]; rfl, by have h := HG.out; subst h; exact bstep HB0.out hB.out⟩

end Go.Proofs.Ytfmdnhhdjjndbaa
