/- Sizes and depths of trusts, and the contracts of the reference's Size and Depth. -/
import Derived.Test.YtfghnkgllmofgaaMake
namespace Go.Proofs.Ytfghnkgllmofgaa
set_option linter.unusedVariables false
set_option linter.unusedSimpArgs false
open Go.RowKit

def sizeT : Nat → Tree → Nat
  | 0, _ => 0
  | d + 1, .mk _ ns is => ns.length + is.length + (is.map (sizeT d)).sum

def depthT : Nat → Tree → Nat
  | 0, _ => 0
  | d + 1, .mk _ _ is => ((is.map (depthT d)).foldl max 0) + 1

theorem sum_take_succ {l : List Nat} {k : Nat} {x : Nat} (h : l[k]? = some x) : (l.take (k + 1)).sum = (l.take k).sum + x := by
  rw [List.take_add_one, h]; simp

theorem sum_take_le : ∀ (l : List Nat) (k : Nat), (l.take k).sum ≤ l.sum
  | [], k => by simp
  | x :: l, 0 => by simp
  | x :: l, k + 1 => by simp only [List.take_succ_cons, List.sum_cons]; have := sum_take_le l k; omega

theorem fmax_take_succ {l : List Nat} {k : Nat} {x : Nat} (h : l[k]? = some x) : (l.take (k + 1)).foldl max 0 = max ((l.take k).foldl max 0) x := by
  rw [List.take_add_one, h]; simp

theorem fmax_le {n : Nat} : ∀ (l : List Nat) (a : Nat), a ≤ n → (∀ x ∈ l, x ≤ n) → l.foldl max a ≤ n
  | [], a, h, _ => h
  | x :: l, a, h, hl => fmax_le l (max a x) (by have := hl x List.mem_cons_self; omega) (fun y hy => hl y (List.mem_cons_of_mem _ hy))

theorem depthT_le : ∀ (d : Nat) (T : Tree), depthT d T ≤ d
  | 0, _ => Nat.le_refl _
  | d + 1, .mk _ _ is => by
    unfold depthT
    have := fmax_le (n := d) (is.map (depthT d)) 0 (Nat.zero_le _) (fun x hx => by obtain ⟨T, _, rfl⟩ := List.mem_map.1 hx; exact depthT_le d T)
    omega

theorem sizeT_sub {d : Nat} {thr : Int} {ns : List Int} {is : List Tree} {k : Nat} {T : Tree} (h : is[k]? = some T) : sizeT d T ≤ sizeT (d + 1) (.mk thr ns is) := by
  have h1 : (is.map (sizeT d))[k]? = some (sizeT d T) := by rw [List.getElem?_map, h]; rfl
  have h2 := sum_take_le (is.map (sizeT d)) (k + 1)
  rw [sum_take_succ h1] at h2
  show _ ≤ ns.length + is.length + (is.map (sizeT d)).sum
  omega

/-- A trust in a box of its own, and what it reads, in the world behind the box. -/
structure Boxed3 (P : Nat → Prop) (d : Nat) (W : World) (g : Nat) (thr : Int) (A : Option Addr) (c : Nat) (B : Option Addr) (c' : Nat) (ns : List Int) (is : List Tree) : Prop where
  heap : W.heap[g]? = some (.cells #[.int .i64 thr, .slice A ns.length c, .slice B is.length c'] 49 (0, 0))
  lt : g < W.heap.size
  c0 : W.cell? ⟨g, 0, none⟩ = some (.int .i64 thr)
  c1 : W.cell? ⟨g, 1, none⟩ = some (.slice A ns.length c)
  c2 : W.cell? ⟨g, 2, none⟩ = some (.slice B is.length c')
  nodes : ∀ k, k < ns.length → ∃ b off, A = some ⟨b, off, none⟩ ∧ W.cell? ⟨b, off + k, none⟩ = some (.int .i64 (ns.getD k 0))
  inner : ∀ k T, is[k]? = some T → ∃ b off t' A' n' ca B' m' cb, B = some ⟨b, off, none⟩ ∧ b < W.heap.size ∧ W.cell? ⟨b, off + k * 3, none⟩ = some (.int .i64 t') ∧ W.cell? ⟨b, off + k * 3 + 1, none⟩ = some (.slice A' n' ca) ∧ W.cell? ⟨b, off + k * 3 + 2, none⟩ = some (.slice B' m' cb) ∧
    TAt P d W (.int .i64 t') (.slice A' n' ca) (.slice B' m' cb) T

theorem Boxed3.below {P : Nat → Prop} {d : Nat} {W W' : World} {g : Nat} {thr : Int} {A : Option Addr} {c : Nat} {B : Option Addr} {c' : Nat} {ns : List Int} {is : List Tree} (h : Boxed3 P d W g thr A c B c' ns is) (hb : Below W.heap.size W W') : Boxed3 P d W' g thr A c B c' ns is := by
  refine ⟨(hb.block g h.lt).trans h.heap, Nat.lt_of_lt_of_le h.lt hb.size, (hb.cell h.lt).trans h.c0, (hb.cell h.lt).trans h.c1, (hb.cell h.lt).trans h.c2, fun k hk => ?_, fun k T hT => ?_⟩
  · obtain ⟨b, off, e1, e2⟩ := h.nodes k hk
    exact ⟨b, off, e1, (hb.cell (cell_lt e2)).trans e2⟩
  · obtain ⟨b, off, t', A', n', ca, B', m', cb, e0, el, e1, e2, e3, e4⟩ := h.inner k T hT
    exact ⟨b, off, t', A', n', ca, B', m', cb, e0, Nat.lt_of_lt_of_le el hb.size, (hb.cell (cell_lt e1)).trans e1, (hb.cell (cell_lt e2)).trans e2, (hb.cell (cell_lt e3)).trans e3, e4.below hb⟩

theorem TAt.boxed {P : Nat → Prop} {d : Nat} {w : World} {v0 v1 v2 : Value} {thr : Int} {ns : List Int} {is : List Tree} (h : TAt P (d + 1) w v0 v1 v2 (.mk thr ns is)) :
    ∃ A c B c', v0 = .int .i64 thr ∧ v1 = .slice A ns.length c ∧ v2 = .slice B is.length c' ∧ ns.length ≤ 1000000 ∧ is.length ≤ 1000000 ∧
      Boxed3 P d (w.alloc (.cells #[.int .i64 thr, .slice A ns.length c, .slice B is.length c'] 49)) w.heap.size thr A c B c' ns is := by
  obtain ⟨rfl, hn, hi, ⟨A, c, rfl, h2⟩, ⟨B, c', rfl, h4⟩⟩ := h
  have hbox : (w.alloc (.cells #[.int .i64 thr, .slice A ns.length c, .slice B is.length c'] 49)).heap[w.heap.size]? = some (.cells #[.int .i64 thr, .slice A ns.length c, .slice B is.length c'] 49 (0, 0)) := heap_alloc_new _ _
  have hb := balloc (bref w) (.cells #[.int .i64 thr, .slice A ns.length c, .slice B is.length c'] 49)
  refine ⟨A, c, B, c', rfl, rfl, rfl, hn, hi, hbox, by simp, cell_of_row _ _ 0 _ _ (0, 0) hbox, cell_of_row _ _ 1 _ _ (0, 0) hbox, cell_of_row _ _ 2 _ _ (0, 0) hbox, fun k hk => ?_, fun k T hT => ?_⟩
  · obtain ⟨b, off, e1, _, e2⟩ := h2 k hk
    exact ⟨b, off, e1, (hb.cell (cell_lt e2)).trans e2⟩
  · obtain ⟨b, off, x0, x1, x2, e0, _, e1, e2, e3, e4⟩ := h4 k T hT
    obtain ⟨t', A', n', ca, B', m', cb, rfl, rfl, rfl⟩ := e4.form
    exact ⟨b, off, t', A', n', ca, B', m', cb, e0, Nat.lt_of_lt_of_le (cell_lt e1) hb.size, (hb.cell (cell_lt e1)).trans e1, (hb.cell (cell_lt e2)).trans e2, (hb.cell (cell_lt e3)).trans e3, e4.below hb⟩

set_option maxHeartbeats 4000000 in
theorem rsize_run (P : Nat → Prop) : ∀ (d : Nat) (T : Tree) (v0 v1 v2 : Value) (w : World), TAt P d w v0 v1 v2 T → sizeT d T ≤ 1000000 →
    Calls Try.prog 51 #[.agg #[v0, v1, v2]] w fun e w' => e = .returned (.int .i64 (sizeT d T)) ∧ Below w.heap.size w w' := by
  intro d
  induction d with
  | zero => intro T v0 v1 v2 w h; exact h.elim
  | succ d ih =>
    intro T v0 v1 v2 w h hS
    obtain ⟨thr, ns, is⟩ := T
    obtain ⟨A, c, B, c', rfl, rfl, rfl, hn, hi, hbx⟩ := h.boxed
    have HBX := Lib.hid hbx
    have HB1 := Lib.hid (balloc (bref w) (.cells #[.int .i64 thr, .slice A ns.length c, .slice B is.length c'] 49))
    have IH := Lib.hid ih
    have HSM := Lib.hid (show sizeT (d + 1) (.mk thr ns is) = ns.length + is.length + (is.map (sizeT d)).sum from rfl)
    have hsum : (is.map (sizeT d)).sum ≤ 1000000 := by have := HSM.out; omega
    have HLE := Lib.hid (fun k T (hT : is[k]? = some T) => Nat.le_trans (sizeT_sub (d := d) (thr := thr) (ns := ns) hT) hS)
    clear h hbx ih hS
    go_enter Try.func51, Try.ntmps51
    go_upto_region 1 with fail
    generalize w.alloc (.cells #[.int .i64 thr, .slice A ns.length c, .slice B is.length c'] 49) = W1 at *
    generalize hg : w.heap.size = g at *
    have hgw := Lib.hid hg
    clear hg
    have c0 := HBX.out.c1
    have c1 := HBX.out.c2
    go_wp2_with fail
    go_loopw [3, 16] (fun u t wr => ∃ k : Nat, k ≤ is.length ∧ t = .int .i64 k ∧ u = .int .i64 ((ns.length + is.length + ((is.map (sizeT d)).take k).sum : Nat) : Int) ∧ Hid (Below W1.heap.size W1 wr)) (fun _ t _ => is.length - (intOf t).toNat)
    case atStart => exact ⟨0, by omega, rfl, by simp, Lib.hid (bref _)⟩
    case round =>
      obtain ⟨k, hk, rfl, rfl, hBr⟩ := hrel
      have hle := sum_take_le (is.map (sizeT d)) k
      by_cases hlt : k < is.length
      · obtain ⟨T, hT⟩ : ∃ T, is[k]? = some T := ⟨_, List.getElem?_eq_getElem hlt⟩
        obtain ⟨b, off, t', A', n', ca, B', m', cb, rfl, hlb, e0, e1, e2, hTk⟩ := (HBX.out.below hBr.out).inner k T hT
        have hT1 := HLE.out k T hT
        have hs' := sum_take_succ (l := is.map (sizeT d)) (k := k) (x := sizeT d T) (by rw [List.getElem?_map, hT]; rfl)
        have hs2 := sum_take_le (is.map (sizeT d)) (k + 1)
        have HS := Lib.hid hs'
        have hbd : ((is.map (sizeT d)).take k).sum + sizeT d T ≤ 1000000 := by omega
        have hTr := Lib.hid (hTk.below (balloc (bref wr) (.cells #[.int .i64 t', .slice A' n' ca, .slice B' m' cb] 49)))
        have hBa := Lib.hid (balloc hBr.out (.cells #[.int .i64 t', .slice A' n' ca, .slice B' m' cb] 49))
        clear hT hTk hs' hs2
        generalize hz : sizeT d T = z at *
        have HZ := Lib.hid hz
        clear hz
        go_wp2_with fail
        refine (IH.out T _ _ _ _ hTr.out (by rw [HZ.out]; omega)).mono ?_
        rintro e w2 ⟨rfl, hb2⟩
        rw [HZ.out]
        have hB2 := Lib.hid (bstep hBa.out hb2)
        clear hb2
        go_wp2_with fail
        go_roundw
        case rel => exact ⟨k + 1, by omega, by go_num, by rw [HS.out]; go_num, hB2⟩
        case measure => simp [intOf]; omega
      · obtain rfl : k = is.length := by omega
        have hfull : ((is.map (sizeT d)).take is.length).sum = (is.map (sizeT d)).sum := by
          rw [show is.length = (is.map (sizeT d)).length by simp, List.take_length]
        have HF := Lib.hid hfull
        clear hfull
        go_wp2_with fail
        go_ret
        exact ⟨by rw [HSM.out, HF.out]; rfl, by have h1 := HB1.out; rw [← hgw.out] at h1; exact bstep h1 hBr.out⟩

end Go.Proofs.Ytfghnkgllmofgaa
