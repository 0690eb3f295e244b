/- A configuration in memory. -/
import Derived.Test.YtfghnkgllmofgaaRef02
import Derived.Test.YtfghnkgllmofgaaSat
namespace Go.Proofs.Ytfghnkgllmofgaa
set_option linter.unusedVariables false
set_option linter.unusedSimpArgs false
open Go.RowKit

/-- A member: is it declared, and its trust. -/
abbrev Mem := Bool × Tree

theorem infoMember : (Try.prog.info? 53).map (fun i => (i.zero, i.size, i.bytes)) = some (some (.agg #[.bool false, .int .i64 0, .slice none 0 0, .slice none 0 0]), 4, 64) := by kernel_rfl

/-- The members' slice v reads as ms; trusts of at most d levels. -/
def MemsAt (P : Nat → Prop) (d : Nat) (w : World) (v : Value) (ms : List Mem) : Prop :=
  ∃ A c, v = .slice A ms.length c ∧ ∀ k m, ms[k]? = some m → ∃ b off x0 x1 x2, A = some ⟨b, off, none⟩ ∧ P b ∧ w.cell? ⟨b, off + k * 4, none⟩ = some (.bool m.1) ∧ w.cell? ⟨b, off + k * 4 + 1, none⟩ = some x0 ∧ w.cell? ⟨b, off + k * 4 + 2, none⟩ = some x1 ∧ w.cell? ⟨b, off + k * 4 + 3, none⟩ = some x2 ∧ TAt P d w x0 x1 x2 m.2

theorem MemsAt.both {P Q : Nat → Prop} {w w' : World} {d : Nat} {v : Value} {ms : List Mem} (h : MemsAt P d w v ms) (hk : ∀ k, k < w.heap.size → P k → w'.heap[k]? = w.heap[k]?) (hq : ∀ k, k < w.heap.size → P k → Q k) : MemsAt Q d w' v ms := by
  obtain ⟨A, c, h1, h2⟩ := h
  refine ⟨A, c, h1, fun k m hm => ?_⟩
  obtain ⟨b, off, x0, x1, x2, e0, e1, e2, e3, e4, e5, e6⟩ := h2 k m hm
  have l := hk _ (cell_lt e2) e1
  exact ⟨b, off, x0, x1, x2, e0, hq _ (cell_lt e2) e1, (World.cell?_of_block (a := ⟨b, off + k * 4, none⟩) l).trans e2, (World.cell?_of_block (a := ⟨b, off + k * 4 + 1, none⟩) l).trans e3, (World.cell?_of_block (a := ⟨b, off + k * 4 + 2, none⟩) l).trans e4, (World.cell?_of_block (a := ⟨b, off + k * 4 + 3, none⟩) l).trans e5, TAt.both hk hq _ _ _ _ _ e6⟩

theorem MemsAt.below {P : Nat → Prop} {w w' : World} {d : Nat} {v : Value} {ms : List Mem} (h : MemsAt P d w v ms) (hb : Below w.heap.size w w') : MemsAt P d w' v ms := h.both (fun k hk _ => hb.block k hk) (fun _ _ h => h)

theorem MemsAt.slice {P : Nat → Prop} {w : World} {d : Nat} {v : Value} {ms : List Mem} (h : MemsAt P d w v ms) : ∃ A c, v = .slice A ms.length c := by
  obtain ⟨A, c, h1, _⟩ := h; exact ⟨A, c, h1⟩

theorem alloc_at {w : World} {o : Obj} {k : Nat} (h : w.heap.size = k) : (w.alloc o).heap[k]? = some o := by rw [← h]; exact heap_alloc_new _ _

theorem alloc_on {w : World} {o v : Obj} {k : Nat} (h : w.heap[k]? = some v) : (w.alloc o).heap[k]? = some v := by
  have hl : k < w.heap.size := by
    rcases Nat.lt_or_ge k w.heap.size with h1 | h1
    · exact h1
    · rw [Array.getElem?_eq_none h1] at h; cases h
  exact (heap_alloc_old _ _ hl).trans h

theorem alloc_sz (w : World) (o : Obj) : (w.alloc o).heap.size = w.heap.size + 1 := by simp

theorem grown_at {a w : World} {lb : Nat} (h : a.grownBy w (some lb)) (o : Nat) (v : Value) : a.grownBy (w.setCell ⟨lb, o, none⟩ v) (some lb) :=
  grown_trans h (gset1 w ⟨lb, o, none⟩ v)

/-- A member in a box of its own. -/
theorem memBox {P : Nat → Prop} {d : Nat} {w : World} {A : Option Addr} {c k : Nat} {ms : List Mem} {m : Mem} (h : MemsAt P d w (.slice A ms.length c) ms) (hm : ms[k]? = some m) :
    ∃ b off t A1 n1 c1 A2 n2 c2, A = some ⟨b, off, none⟩ ∧ P b ∧ b < w.heap.size ∧ w.cell? ⟨b, off + k * 4, none⟩ = some (.bool m.1) ∧ w.cell? ⟨b, off + k * 4 + 1, none⟩ = some (.int .i64 t) ∧ w.cell? ⟨b, off + k * 4 + 2, none⟩ = some (.slice A1 n1 c1) ∧ w.cell? ⟨b, off + k * 4 + 3, none⟩ = some (.slice A2 n2 c2) ∧
      TAt P d w (.int .i64 t) (.slice A1 n1 c1) (.slice A2 n2 c2) m.2 := by
  obtain ⟨A', c', h1, h2⟩ := h
  cases h1
  obtain ⟨b, off, x0, x1, x2, e0, e1, e2, e3, e4, e5, e6⟩ := h2 k m hm
  obtain ⟨t, A1, n1, c1, A2, n2, c2, rfl, rfl, rfl⟩ := e6.form
  exact ⟨b, off, t, A1, n1, c1, A2, n2, c2, e0, e1, cell_lt e2, e2, e3, e4, e5, e6⟩

/-! ### What a configuration says -/

/-- The set of the declared members. -/
def declS (ms : List Mem) : Nat → Nat
  | 0 => 0
  | k + 1 => if (ms.getD k (false, .mk 0 [] [])).1 then declS ms k ||| 2 ^ k else declS ms k

theorem declS_lt (ms : List Mem) : ∀ k, k ≤ 10 → declS ms k < 1024
  | 0, _ => by unfold declS; omega
  | k + 1, h => by
    unfold declS
    split
    · exact Nat.or_lt_two_pow (n := 10) (declS_lt ms k (by omega)) (Nat.pow_lt_pow_right (by omega) (by omega))
    · exact declS_lt ms k (by omega)

set_option maxRecDepth 100000 in
set_option maxHeartbeats 4000000 in
theorem declared_run (P : Nat → Prop) (d : Nat) (ms : List Mem) (v : Value) (w : World) (hl : ms.length ≤ 10) (h : MemsAt P d w v ms) :
    Calls Try.prog 71 #[.agg #[v]] w fun e w' => e = .returned (.int .i64 (declS ms ms.length : Nat)) ∧ Below w.heap.size w w' := by
  obtain ⟨A, c, rfl⟩ := h.slice
  have hb1 : Below w.heap.size w (w.alloc (.cells #[.slice A ms.length c] 27)) := balloc (bref w) _
  have k0 : (w.alloc (.cells #[.slice A ms.length c] 27)).heap[w.heap.size]? = some (.cells #[.slice A ms.length c] 27 (0, 0)) := alloc_at rfl
  have H := Lib.hid (h.below hb1)
  have HB := Lib.hid hb1
  have K0 := Lib.hid k0
  clear h hb1 k0
  go_enter Try.func71, Try.ntmps71
  go_upto_region 1 with fail
  generalize w.alloc (.cells #[.slice A ms.length c] 27) = W1 at *
  generalize hg : w.heap.size = g at *
  have HG := Lib.hid hg
  clear hg
  have c0 : W1.cell? ⟨g, 0, none⟩ = some (.slice A ms.length c) := cell_of_row _ _ 0 _ _ (0, 0) K0.out
  go_wp2_with fail
  go_loopw [3, 9] (fun s t W => ∃ k : Nat, k ≤ ms.length ∧ s = .int .i64 (declS ms k : Nat) ∧ t = .int .i64 k ∧ Hid (Below W1.heap.size W1 W)) (fun _ t _ => ms.length - (intOf t).toNat)
  case atStart => exact ⟨0, by omega, rfl, rfl, Lib.hid (bref _)⟩
  case round =>
    obtain ⟨k, hk, rfl, rfl, hB⟩ := hrel
    by_cases hlt : k < ms.length
    · obtain ⟨m, hm⟩ : ∃ m, ms[k]? = some m := ⟨_, List.getElem?_eq_getElem hlt⟩
      obtain ⟨b, off, t, A1, n1, c1, A2, n2, c2, rfl, hP, hbl, e0, e1, e2, e3, hT⟩ := memBox (H.out.below hB.out) hm
      have HDS := Lib.hid (show declS ms (k + 1) = if m.1 then declS ms k ||| 2 ^ k else declS ms k by
        show (if (ms.getD k (false, .mk 0 [] [])).1 then _ else _) = _
        rw [List.getD_eq_getElem?_getD, hm]; rfl)
      have hdl := declS_lt ms k (by omega)
      have HOR := Lib.hid (shl_or (declS ms k) k (by omega) (by omega))
      obtain ⟨dec, T⟩ := m
      clear hm hT
      generalize declS ms k = D at *
      have hk10 : (k : Int) < 10 := by omega
      cases dec
      · rw [if_neg (by simp)] at HDS
        go_wp2_with fail
        go_roundw
        case rel => exact ⟨k + 1, by omega, by rw [HDS.out], by go_num, Lib.hid (balloc hB.out _)⟩
        case measure => simp [intOf]; omega
      · rw [if_pos rfl] at HDS
        go_wp2_with fail
        rw [HOR.out]
        go_roundw
        case rel => exact ⟨k + 1, by omega, by rw [HDS.out], by go_num, Lib.hid (balloc hB.out _)⟩
        case measure => simp [intOf]; omega
    · obtain rfl : k = ms.length := by omega
      go_wp2_with fail
      go_ret
      exact ⟨rfl, by
        have h1 := HB.out
        rw [← HG.out] at h1
        exact bstep h1 hB.out⟩

end Go.Proofs.Ytfghnkgllmofgaa
