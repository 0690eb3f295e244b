/- The reference for lines: before, at, Find. -/
import Derived.Test.YtfmdnhhdjjndbaaL36
import Derived.Test.YtfmdnhhdjjndbaaL35
namespace Go.Proofs.Ytfmdnhhdjjndbaa
set_option linter.unusedVariables false
set_option linter.unusedSimpArgs false
open Go.RowKit

/-- Where the line of an account for an asset stands. -/
def findL (i : Int) (s : Nat) (L : List Lin) : Nat := L.findIdx (fun a => decide (a.acc = i ∧ a.ast = s))

def hasL (i : Int) (s : Nat) (L : List Lin) : Bool := decide (findL i s L < L.length)

def getL (i : Int) (s : Nat) (L : List Lin) : Lin := (L[findL i s L]?).getD ⟨0, 0, 0, 0⟩

def valL (l : Lin) : Value := .agg #[.int .i64 l.acc, .string (codeOf l.ast), .int .i64 (issOf l.ast), .int .i64 l.bal, .int .i64 l.lim]

def atL (i : Int) (s : Nat) (L : List Lin) (n : Nat) : Int := if findL i s L < n then (findL i s L : Int) else -1

theorem atL_yes {i : Int} {s : Nat} {L : List Lin} {n : Nat} (h : findL i s L < n) : atL i s L n = (findL i s L : Int) := if_pos h

theorem atL_no {i : Int} {s : Nat} {L : List Lin} {n : Nat} (h : ¬ findL i s L < n) : atL i s L n = -1 := if_neg h

theorem findL_none {i : Int} {s : Nat} {L : List Lin} (h : ∀ (k : Nat) (a : Lin), L[k]? = some a → ¬ (a.acc = i ∧ a.ast = s)) : findL i s L = L.length := by
  unfold findL
  rw [List.findIdx_eq_length]
  intro x hx
  obtain ⟨k, hk, rfl⟩ := List.getElem_of_mem hx
  exact decide_eq_false (h k _ (List.getElem?_eq_getElem hk))

theorem findL_at {i : Int} {s : Nat} {L : List Lin} {k : Nat} {a : Lin} (ha : L[k]? = some a) (hi : a.acc = i ∧ a.ast = s) (h : ∀ (j : Nat) (b : Lin), j < k → L[j]? = some b → ¬ (b.acc = i ∧ b.ast = s)) : findL i s L = k := by
  have hk : k < L.length := (List.getElem?_eq_some_iff.1 ha).1
  have he : L[k] = a := (List.getElem?_eq_some_iff.1 ha).2
  unfold findL
  rw [List.findIdx_eq hk]
  exact ⟨by rw [he]; exact decide_eq_true hi, fun j hj => decide_eq_false (h j _ hj (List.getElem?_eq_getElem (by omega)))⟩

theorem findL_spec {i : Int} {s : Nat} {L : List Lin} (h : findL i s L < L.length) : ∃ a : Lin, L[findL i s L]? = some a ∧ a.acc = i ∧ a.ast = s :=
  ⟨_, List.getElem?_eq_getElem h, by
    have h1 := List.findIdx_getElem (p := fun a : Lin => decide (a.acc = i ∧ a.ast = s)) (xs := L) (w := h)
    exact of_decide_eq_true h1⟩

theorem bstepG {w a b : World} {g : Nat} (hg : w.heap.size = g) (h : Below g w a) (k : Below a.heap.size a b) : Below g w b := by subst hg; exact bstep h k

theorem code_eq {x y : Nat} (hx : x ≤ 2) (hy : y ≤ 2) : ((codeOf x).toList == (codeOf y).toList) = (x == y) := by
  match x, y, hx, hy with
  | 0, 0, _, _ | 0, 1, _, _ | 0, 2, _, _ | 1, 0, _, _ | 1, 1, _, _ | 1, 2, _, _ | 2, 0, _, _ | 2, 1, _, _ | 2, 2, _, _ => decide +kernel

theorem iss_eq {x y : Nat} (hx : x ≤ 2) (hy : y ≤ 2) : (issOf x == issOf y) = (x == y) := by
  match x, y, hx, hy with
  | 0, 0, _, _ | 0, 1, _, _ | 0, 2, _, _ | 1, 0, _, _ | 1, 1, _, _ | 1, 2, _, _ | 2, 0, _, _ | 2, 1, _, _ | 2, 2, _, _ => decide +kernel

set_option maxRecDepth 100000 in
set_option maxHeartbeats 4000000 in
theorem rat37_run (P : Nat → Prop) (L : List Lin) (i : Int) (s : Nat) (v : Value) (w : World) (hs : s ≤ 2) (hL : ∀ (k : Nat) (a : Lin), L[k]? = some a → a.ast ≤ 2) (hlen : L.length ≤ 1000) (h : LinAt P w v L) :
    Calls Try.prog 99 #[v, .int .i64 i, valS s] w fun e w' => e = .returned (.int .i64 (atL i s L L.length)) ∧ Below w.heap.size w w' := by
  obtain ⟨A, c, rfl, hc, hm⟩ := h.slice
  have hba := balloc (bref w) (.cells #[.string (codeOf s), .int .i64 (issOf s)] 49)
  have H := Lib.hid (h.below hba)
  have HB0 := Lib.hid hba
  have HLL := Lib.hid hL
  obtain ⟨n, hn⟩ : ∃ n, L.length = n := ⟨_, rfl⟩
  rw [hn] at hlen H hc
  have HN := Lib.hid hn
  have g0 := row_new w #[.string (codeOf s), .int .i64 (issOf s)] 49 0
  have g1 := row_new w #[.string (codeOf s), .int .i64 (issOf s)] 49 1
  suffices hmain : Calls Try.prog 99 #[.slice A n c, .int .i64 i, valS s] w fun e w' => ∃ r : Int, e = .returned (.int .i64 r) ∧ Hid (r = atL i s L n) ∧ Below w.heap.size w w' by
    rw [hn]
    exact hmain.mono (fun e w' ⟨r, h1, h2, h3⟩ => ⟨by rw [h1, h2.out], h3⟩)
  unfold valS
  have hsz : w.heap.size < (w.alloc (.cells #[.string (codeOf s), .int .i64 (issOf s)] 49)).heap.size := by simp
  clear h hn hba hL
  go_enter Try.func99, Try.ntmps99
  go_wp2_with fail
  generalize w.alloc (.cells #[.string (codeOf s), .int .i64 (issOf s)] 49) = W1 at *
  generalize hg : w.heap.size = g at *
  have HG := Lib.hid hg
  clear hg
  go_loopw [11] (fun t W => ∃ k : Nat, k ≤ n ∧ t = .int .i64 k ∧ Hid (∀ (j : Nat) (a : Lin), j < k → L[j]? = some a → ¬ (a.acc = i ∧ a.ast = s)) ∧ Hid (Below W1.heap.size W1 W)) (fun t _ => n - (intOf t).toNat)
  case atStart => exact ⟨0, by omega, rfl, Lib.hid (fun j a hj => by omega), Lib.hid (bref _)⟩
  case round =>
    obtain ⟨k, hk, rfl, hF, hB⟩ := hrel
    by_cases hlt : k < n
    · obtain ⟨a, ha⟩ : ∃ a, L[k]? = some a := ⟨_, List.getElem?_eq_getElem (by rw [HN.out]; exact hlt)⟩
      obtain ⟨b, off, rfl, hP, hbl, c0, c1, c2, c3, c4⟩ := linBox H.out ha
      have d0 := (hB.out.cell (p := ⟨b, off + k * 5, none⟩) hbl).trans c0
      have d1 := (hB.out.cell (p := ⟨b, off + k * 5 + 1, none⟩) hbl).trans c1
      have d2 := (hB.out.cell (p := ⟨b, off + k * 5 + 2, none⟩) hbl).trans c2
      have d3 := (hB.out.cell (p := ⟨b, off + k * 5 + 3, none⟩) hbl).trans c3
      have d4 := (hB.out.cell (p := ⟨b, off + k * 5 + 4, none⟩) hbl).trans c4
      have g0' := (hB.out.cell (p := ⟨g, 0, none⟩) hsz).trans g0
      have g1' := (hB.out.cell (p := ⟨g, 1, none⟩) hsz).trans g1
      have hsr : g < wr.heap.size := Nat.lt_of_lt_of_le hsz hB.out.size
      have hx2 := HLL.out k a ha
      have hce := code_eq hx2 hs
      have hie := iss_eq hx2 hs
      have HB1 := Lib.hid (balloc hB.out (.cells #[.int .i64 a.acc, .string (codeOf a.ast), .int .i64 (issOf a.ast), .int .i64 a.bal, .int .i64 a.lim] 51))
      have HA := Lib.hid ha
      clear c0 c1 c2 c3 c4 ha
      by_cases he : a.acc = i
      · have q0 : (a.acc == i) = true := by simpa using he
        by_cases hes : a.ast = s
        · have q1 : (a.ast == s) = true := by simpa using hes
          have HE := Lib.hid (And.intro he hes)
          rw [q1] at hce hie
          clear he hes
          have HR := Lib.hid (show ((k : Nat) : Int) = atL i s L n by rw [atL_yes (by rw [findL_at HA.out HE.out hF.out]; exact hlt), findL_at HA.out HE.out hF.out])
          go_wp2_with fail
          go_ret
          exact ⟨_, rfl, HR, bstep (by rw [HG.out]; exact HB0.out) HB1.out⟩
        · have q1 : (a.ast == s) = false := by simpa using hes
          have HF2 := Lib.hid (show ∀ (j : Nat) (x : Lin), j < k + 1 → L[j]? = some x → ¬ (x.acc = i ∧ x.ast = s) from fun j x hj hx => by
            rcases Nat.lt_or_ge j k with h1 | h1
            · exact hF.out j x h1 hx
            · obtain rfl : j = k := by omega
              rw [HA.out] at hx
              cases hx
              exact fun h => hes h.2)
          rw [q1] at hce hie
          clear he hes
          go_wp2_with fail
          go_roundw
          case rel => exact ⟨k + 1, by omega, by go_num, HF2, HB1⟩
          case measure => simp [intOf]; omega
      · have q0 : (a.acc == i) = false := by simpa using he
        have HF2 := Lib.hid (show ∀ (j : Nat) (x : Lin), j < k + 1 → L[j]? = some x → ¬ (x.acc = i ∧ x.ast = s) from fun j x hj hx => by
          rcases Nat.lt_or_ge j k with h1 | h1
          · exact hF.out j x h1 hx
          · obtain rfl : j = k := by omega
            rw [HA.out] at hx
            cases hx
            exact fun h => he h.1)
        clear he
        go_wp2_with fail
        go_roundw
        case rel => exact ⟨k + 1, by omega, by go_num, HF2, HB1⟩
        case measure => simp [intOf]; omega
    · obtain rfl : k = n := by omega
      have HR := Lib.hid (show (-1 : Int) = atL i s L k by
        rw [atL_no (by rw [findL_none (fun j a ha => hF.out j a (by rw [← HN.out]; exact (List.getElem?_eq_some_iff.1 ha).1) ha), HN.out]; omega)])
      go_wp2_with fail
      go_ret
      exact ⟨_, rfl, HR, bstep (by rw [HG.out]; exact HB0.out) hB.out⟩

def befL (l : Lin) (i : Int) (s : Nat) : Bool := decide (l.acc < i) || (l.acc == i && lessR l.ast s)

set_option maxHeartbeats 4000000 in
theorem rbefore_run (l : Lin) (i : Int) (s : Nat) (w : World) (hl : l.ast ≤ 2) (hs : s ≤ 2) :
    Calls Try.prog 98 #[valL l, .int .i64 i, valS s] w fun e w' => e = .returned (.bool (befL l i s)) ∧ Below w.heap.size w w' := by
  unfold valL
  rcases Int.lt_trichotomy l.acc i with h | h | h
  · have HR := Lib.hid (show befL l i s = true by unfold befL; rw [decide_eq_true h]; rfl)
    have q0 : decide (l.acc < i) = true := decide_eq_true h
    unfold valS
    clear h
    go_enter Try.func98, Try.ntmps98
    go_wp2_with fail
    go_ret
    exact ⟨by rw [HR.out]; rfl, balloc (balloc (bref _) _) _⟩
  · have HR := Lib.hid (show befL l i s = lessR l.ast s by unfold befL; rw [decide_eq_false (by omega), show (l.acc == i) = true by simpa using h]; rfl)
    have q0 : decide (l.acc < i) = false := decide_eq_false (by omega)
    have q1 : (l.acc == i) = true := by simpa using h
    have HC := Lib.hid (fun W => rless_run l.ast s W hl hs)
    unfold valS at *
    clear h
    go_enter Try.func98, Try.ntmps98
    go_wp2_with fail
    refine (HC.out _).mono ?_
    rintro e w2 ⟨rfl, hb2⟩
    have HB := Lib.hid hb2
    clear hb2
    go_wp2_with fail
    go_ret
    exact ⟨by rw [HR.out]; rfl, bstep (balloc (balloc (bref _) _) _) HB.out⟩
  · have HR := Lib.hid (show befL l i s = false by unfold befL; rw [decide_eq_false (by omega), show (l.acc == i) = false by simp; omega]; rfl)
    have q0 : decide (l.acc < i) = false := decide_eq_false (by omega)
    have q1 : (l.acc == i) = false := by simp; omega
    unfold valS
    clear h
    go_enter Try.func98, Try.ntmps98
    go_wp2_with fail
    go_ret
    exact ⟨by rw [HR.out]; rfl, balloc (balloc (bref _) _) _⟩

set_option maxRecDepth 100000 in
set_option maxHeartbeats 4000000 in
theorem rfind37_run (P : Nat → Prop) (L : List Lin) (i : Int) (s : Nat) (v : Value) (w : World) (hs : s ≤ 2) (hL : ∀ (k : Nat) (a : Lin), L[k]? = some a → a.ast ≤ 2) (hlen : L.length ≤ 1000) (h : LinAt P w v L) :
    Calls Try.prog 88 #[v, .int .i64 i, valS s] w fun e w' => e = .returned (.tuple #[valL (getL i s L), .bool (hasL i s L)]) ∧ Below w.heap.size w w' := by
  obtain ⟨A, c, rfl, hc, hm⟩ := h.slice
  have hba := balloc (bref w) (.cells #[.string (codeOf s), .int .i64 (issOf s)] 49)
  have hbb := balloc hba (.cells #[.int .i64 0, .string ⟨#[]⟩, .int .i64 0, .int .i64 0, .int .i64 0] 51)
  have k0 : ((w.alloc (.cells #[.string (codeOf s), .int .i64 (issOf s)] 49)).alloc (.cells #[.int .i64 0, .string ⟨#[]⟩, .int .i64 0, .int .i64 0, .int .i64 0] 51)).heap[w.heap.size + 1]? = some (.cells #[.int .i64 0, .string ⟨#[]⟩, .int .i64 0, .int .i64 0, .int .i64 0] 51 (0, 0)) := by
    have := heap_alloc_new (w.alloc (.cells #[.string (codeOf s), .int .i64 (issOf s)] 49)) (.cells #[.int .i64 0, .string ⟨#[]⟩, .int .i64 0, .int .i64 0, .int .i64 0] 51)
    simpa using this
  have g0 := (World.cell?_alloc_lt (w.alloc (.cells #[.string (codeOf s), .int .i64 (issOf s)] 49)) (.cells #[.int .i64 0, .string ⟨#[]⟩, .int .i64 0, .int .i64 0, .int .i64 0] 51) ⟨w.heap.size, 0, none⟩ (by simp)).trans (row_new w #[.string (codeOf s), .int .i64 (issOf s)] 49 0)
  have g1 := (World.cell?_alloc_lt (w.alloc (.cells #[.string (codeOf s), .int .i64 (issOf s)] 49)) (.cells #[.int .i64 0, .string ⟨#[]⟩, .int .i64 0, .int .i64 0, .int .i64 0] 51) ⟨w.heap.size, 1, none⟩ (by simp)).trans (row_new w #[.string (codeOf s), .int .i64 (issOf s)] 49 1)
  have H1 := Lib.hid (h.below hbb)
  have K0 := Lib.hid k0
  have HB0 := Lib.hid hbb
  have hz1 : w.heap.size + 1 < ((w.alloc (.cells #[.string (codeOf s), .int .i64 (issOf s)] 49)).alloc (.cells #[.int .i64 0, .string ⟨#[]⟩, .int .i64 0, .int .i64 0, .int .i64 0] 51)).heap.size := by simp
  clear k0 hba hbb
  obtain ⟨F, hF⟩ : ∃ F, findL i s L = F := ⟨_, rfl⟩
  have HC := Lib.hid (fun P v W hv => rat37_run P L i s v W hs hL hlen hv)
  unfold valS at *
  rcases Nat.lt_or_ge F L.length with hlt | hge
  · obtain ⟨a, ha⟩ : ∃ a, L[F]? = some a := ⟨_, List.getElem?_eq_getElem hlt⟩
    have HR := Lib.hid (show Value.tuple #[valL (getL i s L), .bool (hasL i s L)] = .tuple #[.agg #[.int .i64 a.acc, .string (codeOf a.ast), .int .i64 (issOf a.ast), .int .i64 a.bal, .int .i64 a.lim], .bool true] by
      unfold getL hasL valL
      rw [hF, ha, decide_eq_true hlt]
      rfl)
    have HI := Lib.hid (show atL i s L L.length = (F : Int) by rw [atL_yes (by rw [hF]; exact hlt), hF])
    have HA := Lib.hid ha
    have hf0 : (0 : Int) ≤ (F : Int) := by omega
    clear h hF ha hL
    go_enter Try.func88, Try.ntmps88
    go_wp2_with fail
    refine (HC.out P _ _ H1.out).mono ?_
    rintro e w2 ⟨rfl, hb2⟩
    rw [HI.out]
    obtain ⟨b, off, rfl, hP, hbl, c0, c1, c2, c3, c4⟩ := linBox (H1.out.below hb2) HA.out
    have k2 := (hb2.block (w.heap.size + 1) hz1).trans K0.out
    have f0 : ∀ o, w2.frozen? ⟨w.heap.size + 1, o, none⟩ = false := fun o => by simp [World.frozen?, k2]
    have f1 := f0 0
    have f2 := f0 1
    have f3 := f0 2
    have f4 := f0 3
    have f5 := f0 4
    have e0 : w2.cell? ⟨w.heap.size + 1, 0, none⟩ = some (.int .i64 0) := cell_of_row _ _ 0 _ _ (0, 0) k2
    have e1 : w2.cell? ⟨w.heap.size + 1, 1, none⟩ = some (.string ⟨#[]⟩) := cell_of_row _ _ 1 _ _ (0, 0) k2
    have e2 : w2.cell? ⟨w.heap.size + 1, 2, none⟩ = some (.int .i64 0) := cell_of_row _ _ 2 _ _ (0, 0) k2
    have e3 : w2.cell? ⟨w.heap.size + 1, 3, none⟩ = some (.int .i64 0) := cell_of_row _ _ 3 _ _ (0, 0) k2
    have e4 : w2.cell? ⟨w.heap.size + 1, 4, none⟩ = some (.int .i64 0) := cell_of_row _ _ 4 _ _ (0, 0) k2
    have HK2 := Lib.hid k2
    have HB2 := Lib.hid (bset (bset (bset (bset (bset (bstep HB0.out hb2) (p := ⟨w.heap.size + 1, 0, none⟩) (by simp) (.int .i64 a.acc)) (p := ⟨w.heap.size + 1, 1, none⟩) (by simp) (.string (codeOf a.ast))) (p := ⟨w.heap.size + 1, 2, none⟩) (by simp) (.int .i64 (issOf a.ast))) (p := ⟨w.heap.size + 1, 3, none⟩) (by simp) (.int .i64 a.bal)) (p := ⟨w.heap.size + 1, 4, none⟩) (by simp) (.int .i64 a.lim))
    clear f0 hb2 k2
    go_wp2_with fail
    refine bodyPost_ret (v := .tuple #[.agg #[.int .i64 a.acc, .string (codeOf a.ast), .int .i64 (issOf a.ast), .int .i64 a.bal, .int .i64 a.lim], .bool true]) ?_ rfl ⟨by rw [HR.out], HB2.out⟩
    simp [results, Try.results88, go_sem, e0, e1, e2, e3, e4, HK2.out]
  · have HR := Lib.hid (show Value.tuple #[valL (getL i s L), .bool (hasL i s L)] = .tuple #[.agg #[.int .i64 0, .string ⟨#[]⟩, .int .i64 0, .int .i64 0, .int .i64 0], .bool false] by
      unfold getL hasL valL
      rw [hF, List.getElem?_eq_none hge, decide_eq_false (by omega)]
      rfl)
    have HI := Lib.hid (show atL i s L L.length = (-1 : Int) by rw [atL_no (by rw [hF]; omega)])
    clear h hF hL
    go_enter Try.func88, Try.ntmps88
    go_wp2_with fail
    refine (HC.out P _ _ H1.out).mono ?_
    rintro e w2 ⟨rfl, hb2⟩
    rw [HI.out]
    have k2 := (hb2.block (w.heap.size + 1) hz1).trans K0.out
    have f0 : ∀ o, w2.frozen? ⟨w.heap.size + 1, o, none⟩ = false := fun o => by simp [World.frozen?, k2]
    have f1 := f0 0
    have f2 := f0 1
    have f3 := f0 2
    have f4 := f0 3
    have f5 := f0 4
    have e0 : w2.cell? ⟨w.heap.size + 1, 0, none⟩ = some (.int .i64 0) := cell_of_row _ _ 0 _ _ (0, 0) k2
    have e1 : w2.cell? ⟨w.heap.size + 1, 1, none⟩ = some (.string ⟨#[]⟩) := cell_of_row _ _ 1 _ _ (0, 0) k2
    have e2 : w2.cell? ⟨w.heap.size + 1, 2, none⟩ = some (.int .i64 0) := cell_of_row _ _ 2 _ _ (0, 0) k2
    have e3 : w2.cell? ⟨w.heap.size + 1, 3, none⟩ = some (.int .i64 0) := cell_of_row _ _ 3 _ _ (0, 0) k2
    have e4 : w2.cell? ⟨w.heap.size + 1, 4, none⟩ = some (.int .i64 0) := cell_of_row _ _ 4 _ _ (0, 0) k2
    have HK2 := Lib.hid k2
    have HB2 := Lib.hid (bset (bset (bset (bset (bset (bstep HB0.out hb2) (p := ⟨w.heap.size + 1, 0, none⟩) (by simp) (.int .i64 0)) (p := ⟨w.heap.size + 1, 1, none⟩) (by simp) (.string ⟨#[]⟩)) (p := ⟨w.heap.size + 1, 2, none⟩) (by simp) (.int .i64 0)) (p := ⟨w.heap.size + 1, 3, none⟩) (by simp) (.int .i64 0)) (p := ⟨w.heap.size + 1, 4, none⟩) (by simp) (.int .i64 0))
    clear f0 hb2 k2
    go_wp2_with fail
    refine bodyPost_ret (v := .tuple #[.agg #[.int .i64 0, .string ⟨#[]⟩, .int .i64 0, .int .i64 0, .int .i64 0], .bool false]) ?_ rfl ⟨by rw [HR.out], HB2.out⟩
    simp [results, Try.results88, go_sem, e0, e1, e2, e3, e4, HK2.out]

end Go.Proofs.Ytfmdnhhdjjndbaa
