/- Trusts in memory, and the contract of threshold.holds: whether a set satisfies a trust. -/
import Derived.Test.YtfghnkgllmofgaaSet
import Derived.Test.YtfghnkgllmofgaaTape
import Derived.Deep.DeepCutAuto
namespace Go.Proofs.Ytfghnkgllmofgaa
set_option linter.unusedVariables false
set_option linter.unusedSimpArgs false
open Go.RowKit

/-- A trust as a datum. -/
inductive Tree where
  | mk (thr : Int) (nodes : List Int) (inner : List Tree)

/-- The three cells of a trust, v0 v1 v2, read as T; at most d levels. -/
def TAt (P : Nat → Prop) : Nat → World → Value → Value → Value → Tree → Prop
  | 0, _, _, _, _, _ => False
  | d + 1, w, v0, v1, v2, .mk thr ns is =>
      v0 = .int .i64 thr ∧ ns.length ≤ 1000000 ∧ is.length ≤ 1000000 ∧
      (∃ A c, v1 = .slice A ns.length c ∧ ∀ k, k < ns.length → ∃ b off, A = some ⟨b, off, none⟩ ∧ P b ∧ w.cell? ⟨b, off + k, none⟩ = some (.int .i64 (ns.getD k 0))) ∧
      (∃ A c, v2 = .slice A is.length c ∧ ∀ k T, is[k]? = some T → ∃ b off x0 x1 x2, A = some ⟨b, off, none⟩ ∧ P b ∧ w.cell? ⟨b, off + k * 3, none⟩ = some x0 ∧ w.cell? ⟨b, off + k * 3 + 1, none⟩ = some x1 ∧ w.cell? ⟨b, off + k * 3 + 2, none⟩ = some x2 ∧ TAt P d w x0 x1 x2 T)

theorem TAt.both {P Q : Nat → Prop} {w w' : World} (hk : ∀ k, k < w.heap.size → P k → w'.heap[k]? = w.heap[k]?) (hq : ∀ k, k < w.heap.size → P k → Q k) : ∀ (d : Nat) (v0 v1 v2 : Value) (T : Tree), TAt P d w v0 v1 v2 T → TAt Q d w' v0 v1 v2 T := by
  intro d
  induction d with
  | zero => intro v0 v1 v2 T h; exact h.elim
  | succ d ih =>
    intro v0 v1 v2 T h
    obtain ⟨thr, ns, is⟩ := T
    obtain ⟨h0, hn, hi, ⟨A, c, h1, h2⟩, ⟨B, c', h3, h4⟩⟩ := h
    refine ⟨h0, hn, hi, ⟨A, c, h1, fun k hk' => ?_⟩, ⟨B, c', h3, fun k T hT => ?_⟩⟩
    · obtain ⟨b, off, e1, en, e2⟩ := h2 k hk'
      exact ⟨b, off, e1, hq _ (cell_lt e2) en, (World.cell?_of_block (hk _ (cell_lt e2) en)).trans e2⟩
    · obtain ⟨b, off, x0, x1, x2, e1, en, e2, e3, e4, e5⟩ := h4 k T hT
      exact ⟨b, off, x0, x1, x2, e1, hq _ (cell_lt e2) en, (World.cell?_of_block (hk _ (cell_lt e2) en)).trans e2, (World.cell?_of_block (hk _ (cell_lt e3) en)).trans e3, (World.cell?_of_block (hk _ (cell_lt e4) en)).trans e4, ih _ _ _ _ e5⟩

theorem TAt.keep {P : Nat → Prop} {w w' : World} (hk : ∀ k, k < w.heap.size → P k → w'.heap[k]? = w.heap[k]?) {d : Nat} {v0 v1 v2 : Value} {T : Tree} (h : TAt P d w v0 v1 v2 T) : TAt P d w' v0 v1 v2 T := TAt.both hk (fun _ _ h => h) _ _ _ _ _ h

theorem TAt.imp {P Q : Nat → Prop} {w : World} (hq : ∀ k, k < w.heap.size → P k → Q k) {d : Nat} {v0 v1 v2 : Value} {T : Tree} (h : TAt P d w v0 v1 v2 T) : TAt Q d w v0 v1 v2 T := TAt.both (fun _ _ _ => rfl) hq _ _ _ _ _ h

theorem TAt.below {P : Nat → Prop} {w w' : World} {d : Nat} {v0 v1 v2 : Value} {T : Tree} (h : TAt P d w v0 v1 v2 T) (hb : Below w.heap.size w w') : TAt P d w' v0 v1 v2 T := TAt.keep (fun k h1 _ => hb.block k h1) h

theorem TAt.up {P : Nat → Prop} {w : World} : ∀ {d : Nat} {v0 v1 v2 : Value} {T : Tree}, TAt P d w v0 v1 v2 T → TAt P (d + 1) w v0 v1 v2 T := by
  intro d
  induction d with
  | zero => intro v0 v1 v2 T h; exact h.elim
  | succ d ih =>
    intro v0 v1 v2 T h
    obtain ⟨thr, ns, is⟩ := T
    obtain ⟨h0, hn, hi, h1, ⟨B, c', h3, h4⟩⟩ := h
    refine ⟨h0, hn, hi, h1, ⟨B, c', h3, fun k T hT => ?_⟩⟩
    obtain ⟨b, off, x0, x1, x2, e1, en, e2, e3, e4, e5⟩ := h4 k T hT
    exact ⟨b, off, x0, x1, x2, e1, en, e2, e3, e4, ih e5⟩

theorem TAt.form {P : Nat → Prop} {w : World} {d : Nat} {v0 v1 v2 : Value} {T : Tree} (h : TAt P d w v0 v1 v2 T) : ∃ (t : Int) (A : Option Addr) (n c : Nat) (B : Option Addr) (m c' : Nat), v0 = .int .i64 t ∧ v1 = .slice A n c ∧ v2 = .slice B m c' := by
  cases d with
  | zero => exact h.elim
  | succ d =>
    obtain ⟨thr, ns, is⟩ := T
    obtain ⟨h0, _, _, ⟨A, c, h1, _⟩, ⟨B, c', h2, _⟩⟩ := h
    exact ⟨thr, A, _, c, B, _, c', h0, h1, h2⟩

/-- How many of a list hold. -/
def cnt {α : Type} (p : α → Bool) (l : List α) : Nat := (l.filter p).length

theorem cnt_take_succ {α : Type} (p : α → Bool) (l : List α) (k : Nat) (x : α) (h : l[k]? = some x) : cnt p (l.take (k + 1)) = cnt p (l.take k) + if p x then 1 else 0 := by
  unfold cnt
  rw [List.take_add_one, h]
  simp only [Option.toList_some, List.filter_append, List.length_append]
  by_cases hp : p x <;> simp [hp]

theorem cnt_take_le {α : Type} (p : α → Bool) (l : List α) (k : Nat) : cnt p (l.take k) ≤ cnt p l := by
  unfold cnt
  exact (List.Sublist.filter p (List.take_sublist k l)).length_le

theorem cnt_le {α : Type} (p : α → Bool) (l : List α) : cnt p l ≤ l.length := by unfold cnt; exact List.length_filter_le _ _

/-- Does the predicate p of nodes satisfy the trust? -/
def holdsT : Nat → (Int → Bool) → Tree → Bool
  | 0, _, _ => false
  | d + 1, p, .mk thr ns is => decide (thr ≤ ((cnt p ns + cnt (holdsT d p) is : Nat) : Int))

theorem cnt_full {α : Type} (p : α → Bool) (l : List α) : cnt p (l.take l.length) = cnt p l := by rw [List.take_length]

set_option maxHeartbeats 4000000 in
theorem holds_run (P : Nat → Prop) : ∀ (d : Nat) (T : Tree) (v0 v1 v2 : Value) (s : Int) (w : World), TAt P d w v0 v1 v2 T →
    Calls Try.prog 89 #[.agg #[v0, v1, v2], .int .i64 s] w fun e w' => e = .returned (.bool (holdsT d (hasB s) T)) ∧ Below w.heap.size w w' := by
  intro d
  induction d with
  | zero => intro T v0 v1 v2 s w h; exact h.elim
  | succ d ih =>
    intro T v0 v1 v2 s w h
    have hT := Lib.hid h
    obtain ⟨thr, ns, is⟩ := T
    obtain ⟨rfl, hn, hi, ⟨A, c, rfl, h2⟩, ⟨B, c', rfl, h4⟩⟩ := h
    have hB1 := Lib.hid (balloc (bref w) (.cells #[.int .i64 thr, .slice A ns.length c, .slice B is.length c'] 49))
    have hbox : (w.alloc (.cells #[.int .i64 thr, .slice A ns.length c, .slice B is.length c'] 49)).heap[w.heap.size]? = some (.cells #[.int .i64 thr, .slice A ns.length c, .slice B is.length c'] 49 (0, 0)) := heap_alloc_new _ _
    have H2 := Lib.hid (fun k hk => by
      obtain ⟨b, off, e1, _, e2⟩ := h2 k hk
      exact (⟨b, off, e1, (World.cell?_alloc_lt _ _ _ (cell_lt e2)).trans e2⟩ : ∃ b off, A = some ⟨b, off, none⟩ ∧ (w.alloc (.cells #[.int .i64 thr, .slice A ns.length c, .slice B is.length c'] 49)).cell? ⟨b, off + k, none⟩ = some (.int .i64 (ns.getD k 0))))
    have H4 := Lib.hid (fun k T (hT : is[k]? = some T) => by
      obtain ⟨b, off, x0, x1, x2, e1, _, e2, e3, e4, e5⟩ := h4 k T hT
      exact (⟨b, off, x0, x1, x2, e1, (World.cell?_alloc_lt _ _ _ (cell_lt e2)).trans e2, (World.cell?_alloc_lt _ _ _ (cell_lt e3)).trans e3, (World.cell?_alloc_lt _ _ _ (cell_lt e4)).trans e4, e5.below (balloc (bref w) (.cells #[.int .i64 thr, .slice A ns.length c, .slice B is.length c'] 49))⟩ :
        ∃ b off x0 x1 x2, B = some ⟨b, off, none⟩ ∧ (w.alloc (.cells #[.int .i64 thr, .slice A ns.length c, .slice B is.length c'] 49)).cell? ⟨b, off + k * 3, none⟩ = some x0 ∧ (w.alloc (.cells #[.int .i64 thr, .slice A ns.length c, .slice B is.length c'] 49)).cell? ⟨b, off + k * 3 + 1, none⟩ = some x1 ∧ (w.alloc (.cells #[.int .i64 thr, .slice A ns.length c, .slice B is.length c'] 49)).cell? ⟨b, off + k * 3 + 2, none⟩ = some x2 ∧ TAt P d (w.alloc (.cells #[.int .i64 thr, .slice A ns.length c, .slice B is.length c'] 49)) x0 x1 x2 T))
    have HD := Lib.hid (show holdsT (d + 1) (hasB s) (.mk thr ns is) = decide (thr ≤ ((cnt (hasB s) ns + cnt (holdsT d (hasB s)) is : Nat) : Int)) from rfl)
    have IH := Lib.hid ih
    have hcn := cnt_le (hasB s) ns
    have hci := cnt_le (holdsT d (hasB s)) is
    clear h2 h4 ih hT
    go_enter Try.func89, Try.ntmps89
    go_upto_region 2 with fail
    generalize w.alloc (.cells #[.int .i64 thr, .slice A ns.length c, .slice B is.length c'] 49) = W1 at *
    have hbl : w.heap.size < W1.heap.size := by
      rcases Nat.lt_or_ge w.heap.size W1.heap.size with h | h
      · exact h
      · rw [Array.getElem?_eq_none h] at hbox; cases hbox
    generalize hg : w.heap.size = g at *
    have hgw := Lib.hid hg
    clear hg
    have b0 : W1.cell? ⟨g, 0, none⟩ = some (.int .i64 thr) := cell_of_row _ _ 0 _ _ (0, 0) hbox
    have b1 : W1.cell? ⟨g, 1, none⟩ = some (.slice A ns.length c) := cell_of_row _ _ 1 _ _ (0, 0) hbox
    have b2 : W1.cell? ⟨g, 2, none⟩ = some (.slice B is.length c') := cell_of_row _ _ 2 _ _ (0, 0) hbox
    have HX := Lib.hid hbox
    clear hbox
    go_wp2_with fail
    go_loop [5, 13] (fun u t => ∃ k : Nat, k ≤ ns.length ∧ t = .int .i64 k ∧ u = .int .i64 ((cnt (hasB s) (ns.take k) : Nat) : Int)) (fun _ t => ns.length - (intOf t).toNat)
    case atStart => exact ⟨0, by omega, rfl, rfl⟩
    case round =>
      obtain ⟨k, hk, rfl, rfl⟩ := hrel
      have hle := cnt_take_le (hasB s) ns k
      by_cases hlt : k < ns.length
      · obtain ⟨b, off, rfl, hc⟩ := H2.out k hlt
        have hs' := cnt_take_succ (hasB s) ns k (ns.getD k 0) (by rw [List.getD_eq_getElem?_getD, List.getElem?_eq_getElem hlt]; rfl)
        obtain ⟨x, hx⟩ : ∃ x, ns.getD k 0 = x := ⟨_, rfl⟩
        rw [hx] at hc hs'
        clear hx
        cases hv : hasB s x
        all_goals
          rw [hv] at hs'
          have HS := Lib.hid hs'
          clear hs'
          go_wp2_with fail
          refine (has_run _ _ _).mono ?_
          rintro e w2 ⟨rfl, rfl⟩
          rw [hv]
          go_wp2_with fail
          go_round
          case rel => exact ⟨k + 1, by omega, by go_num, by rw [HS.out]; first | rfl | (simp)⟩
          case measure => simp [intOf]; omega
      · obtain rfl : k = ns.length := by omega
        have hfull := Lib.hid (cnt_full (hasB s) ns)
        go_wp2_with fail
        go_loopw [5, 26] (fun u t W => ∃ k : Nat, k ≤ is.length ∧ t = .int .i64 k ∧ u = .int .i64 ((cnt (hasB s) ns + cnt (holdsT d (hasB s)) (is.take k) : Nat) : Int) ∧ Hid (Below W1.heap.size W1 W)) (fun _ t _ => is.length - (intOf t).toNat)
        case atStart => exact ⟨0, by omega, rfl, rfl, Lib.hid (bref _)⟩
        case round =>
          obtain ⟨k, hk, rfl, rfl, hBr⟩ := hrel
          have hle := cnt_take_le (holdsT d (hasB s)) is k
          have d0 : wr.cell? ⟨g, 0, none⟩ = some (.int .i64 thr) := (hBr.out.cell (p := ⟨g, 0, none⟩) hbl).trans b0
          have hgr : g < wr.heap.size := Nat.lt_of_lt_of_le hbl hBr.out.size
          by_cases hlt : k < is.length
          · obtain ⟨b, off, x0, x1, x2, rfl, c0, c1, c2, hTk⟩ := H4.out k (is[k]) (List.getElem?_eq_getElem hlt)
            obtain ⟨t', A', n', ca, B', m', cb, rfl, rfl, rfl⟩ := hTk.form
            have hs' := cnt_take_succ (holdsT d (hasB s)) is k (is[k]) (List.getElem?_eq_getElem hlt)
            have e0 : wr.cell? ⟨b, off + k * 3, none⟩ = some (.int .i64 t') := (hBr.out.cell (p := ⟨b, off + k * 3, none⟩) (cell_lt c0)).trans c0
            have e1 : wr.cell? ⟨b, off + k * 3 + 1, none⟩ = some (.slice A' n' ca) := (hBr.out.cell (p := ⟨b, off + k * 3 + 1, none⟩) (cell_lt c1)).trans c1
            have e2 : wr.cell? ⟨b, off + k * 3 + 2, none⟩ = some (.slice B' m' cb) := (hBr.out.cell (p := ⟨b, off + k * 3 + 2, none⟩) (cell_lt c2)).trans c2
            have hlb := cell_lt e0
            have hTr := Lib.hid ((hTk.below hBr.out).below (balloc (bref wr) (.cells #[.int .i64 t', .slice A' n' ca, .slice B' m' cb] 49)))
            have hBa := Lib.hid (balloc hBr.out (.cells #[.int .i64 t', .slice A' n' ca, .slice B' m' cb] 49))
            clear c0 c1 c2 hTk
            by_cases hbr : thr ≤ ((cnt (hasB s) ns + cnt (holdsT d (hasB s)) (is.take k) : Nat) : Int)
            · have HT : Hid (holdsT (d + 1) (hasB s) (.mk thr ns is) = true) := Lib.hid (by rw [HD.out, decide_eq_true_eq]; omega)
              go_wp2_with fail
              go_ret
              exact ⟨by rw [HT.out]; rfl, by have h1 := hB1.out; rw [← hgw.out] at h1; exact bstep h1 (balloc hBr.out _)⟩
            · generalize is[k] = Tk at *
              cases hv : holdsT d (hasB s) Tk
              all_goals
                rw [hv] at hs'
                have HS := Lib.hid hs'
                clear hs'
                go_wp2_with fail
                refine (IH.out Tk _ _ _ s _ hTr.out).mono ?_
                rintro e w2 ⟨rfl, hb2⟩
                rw [hv]
                have hB2 := Lib.hid (bstep hBa.out hb2)
                clear hb2
                go_wp2_with fail
                go_roundw
                case rel => exact ⟨k + 1, by omega, by go_num, by rw [HS.out]; first | rfl | (simp; omega) | simp, hB2⟩
                case measure => simp [intOf]; omega
          · obtain rfl : k = is.length := by omega
            have hful2 := Lib.hid (cnt_full (holdsT d (hasB s)) is)
            have HT : Hid (holdsT (d + 1) (hasB s) (.mk thr ns is) = decide (thr ≤ (cnt (hasB s) ns : Int) + (cnt (holdsT d (hasB s)) is : Int))) := Lib.hid (by rw [HD.out, Int.natCast_add])
            by_cases hend : thr ≤ (cnt (hasB s) ns : Int) + (cnt (holdsT d (hasB s)) is : Int)
            all_goals
              go_wp2_with fail
              go_ret
              exact ⟨by rw [HT.out]; simp [hend], by have h1 := hB1.out; rw [← hgw.out] at h1; exact bstep h1 hBr.out⟩

end Go.Proofs.Ytfghnkgllmofgaa
