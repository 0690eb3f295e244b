/- What the laws of this seat share: part 4. -/
import Derived.Test.YtnfdacfhhkahhaaB3
import Derived.Laws.CopyOwn
import Derived.Deep.RegionLaw
import Derived.IntWalk
import Derived.RangeFuncFrom
import Derived.RangeFuncLeaves
import Derived.RangeFuncNested
import Derived.RangeFuncBound
import Derived.RangeFuncCalls
import Derived.Shelf.Abstract
import Derived.WalkKit
import Derived.OwnWalkIn
import Derived.TacticsInMore
import Derived.LoopNIn
import Derived.LoopIn
import Derived.Deep.RegionHeld3
import Derived.Deep.RegionWith
import Derived.Sort.Grow
import Derived.Deep.WholeRow
import Derived.Shelf.SlSortCmp.Insertion
import Derived.Test.YtnfdacfhhkahhaaProg
import Derived.Sort.OwnSortedInts

namespace Go.Proofs.Ytnfdacfhhkahhaa
set_option linter.unusedVariables false
set_option linter.unusedSimpArgs false
open Go Go.RowKit

theorem run_copy_rowM {P : Program} (w : World) (dT sT ty elem : TypeId) (m g o dLen dCap : Nat) (a : Addr) (sLen sCap : Nat) (cur : Array Value) (t : TypeId) (cs : List Value)
    (hu : P.underlying dT = some (.slice elem)) (hs : (P.info? elem).map (·.size) = some m)
    (hg : w.heap[g]? = some (.cells cur t (0, 0))) (hn : cs.length = Nat.min sLen dLen * m)
    (hsrc : ∀ j v, cs[j]? = some v → w.cell? (a.add j) = some v) (hfit : o + cs.length ≤ cur.size) (h1 : ∀ v ∈ cs, v.oneCell' = true) :
    (Builtin.copy_ #[dT, sT] ty #[.slice (some ⟨g, o, none⟩) dLen dCap, .slice (some a) sLen sCap]).run P w =
      .ok (goInt (Nat.min sLen dLen)) (w.setRow g (cur.toList.take o ++ cs ++ cur.toList.drop (o + cs.length)).toArray) := by
  have hl := run_loadCells_list (P := P) w a cs hsrc
  have hst := run_storeCells_at P g o t cs 0 cur w hg (by simpa using hfit) h1
  cases hq : P.info? elem with
  | none => simp [hq] at hs
  | some i =>
    have hi : i.size = m := by simpa [hq] using hs
    simp [Builtin.copy_, run_underlying hu, Builtin.lenOf, Builtin.firstCells, sizeOf, typeInfo, hq, hi, ← hn, hl, hst]

theorem run_copy_noneM {P : Program} (w : World) (dT sT ty elem : TypeId) (m : Nat) (d a : Option Addr) (dLen dCap sLen sCap : Nat) (hu : P.underlying dT = some (.slice elem)) (hs : (P.info? elem).map (·.size) = some m) (hn : Nat.min sLen dLen = 0) :
    (Builtin.copy_ #[dT, sT] ty #[.slice d dLen dCap, .slice a sLen sCap]).run P w = .ok (goInt 0) w := by
  cases hq : P.info? elem with
  | none => simp [hq] at hs
  | some i =>
    have hl : ∀ (x : Addr), (loadCells x 0).run P w = .ok #[] w := fun x => by simpa using run_loadCells_list (P := P) w x [] (by simp)
    cases d <;> cases a <;> simp [Builtin.copy_, run_underlying hu, Builtin.lenOf, Builtin.firstCells, sizeOf, typeInfo, hq, hn, storeCells, hl]

theorem step_copy_spliceM {P : Program} {ops : Array Oper} {o : Oper} {a : Act} {w : World} {K : Act → World → Prop} {Q : Exit → Act → World → Prop} {E : Prop} (hgd : o.guard = none) (d s : Operand) (dT sT : TypeId)
    (ho : o.op = .call { callee := .builtin .copy, args := #[d, s], argTypes := #[dT, sT] }) (elem : TypeId) (m : Nat) (hm : 0 < m) (hu : P.underlying dT = some (.slice elem)) (hsz : (P.info? elem).map (·.size) = some m)
    (dp sp : Option Addr) (dLen dCap sLen sCap : Nat) (hd : a.eval d = .slice dp dLen dCap) (hs : a.eval s = .slice sp sLen sCap)
    (g off : Nat) (cur : List Value) (t : TypeId) (hg : w.heap[g]? = some (.cells cur.toArray t (0, 0))) (cs : List Value) (N : Nat) (hN : N = Nat.min sLen dLen) (hn : cs.length = N * m)
    (hpos : 0 < cs.length → dp = some ⟨g, off, none⟩ ∧ ∃ ad, sp = some ad ∧ ∀ j v, cs[j]? = some v → w.cell? (ad.add j) = some v)
    (hfit : off + cs.length ≤ cur.length) (h1 : ∀ v ∈ cs, v.oneCell' = true) (B : Nat) (w0 : World) (hb : RowKit.Below B w0 w) (hBg : B ≤ g)
    (h : ∀ w', RowKit.Hid (w'.heap[g]? = some (.cells (splice cur off cs).toArray t (0, 0))) → RowKit.Below B w0 w' → (∀ q, q ≠ g → w'.heap[q]? = w.heap[q]?) → K (a.put o.dst (goInt N)) w') :
    if Region.wanted o (yielded ops a.tmps) = true then Oper.wp P o a w K Q else E := by
  have hw : Region.wanted o (yielded ops a.tmps) = true := by simp [Region.wanted, hgd]
  rw [if_pos hw]
  by_cases h0 : cs.length = 0
  · obtain rfl : cs = [] := List.eq_nil_of_length_eq_zero h0
    have hN0 : N = 0 := by
      rcases Nat.mul_eq_zero.1 (hn.symm.trans rfl : N * m = 0) with h2 | h2
      · exact h2
      · omega
    subst hN0
    have hrun := run_copy_noneM (P := P) w dT sT o.type elem m dp sp dLen dCap sLen sCap hu hsz hN.symm
    unfold Oper.wp
    simp [execOp, ho, resolve, invoke, builtin, hd, hs, hrun, Result.andThen]
    exact h w (show _ = _ by simpa [splice] using hg) hb (fun _ _ => rfl)
  · obtain ⟨rfl, ad, rfl, hsrc⟩ := hpos (by omega)
    have hrun := run_copy_rowM (P := P) w dT sT o.type elem m g off dLen dCap ad sLen sCap cur.toArray t cs hu hsz hg (by rw [hn, hN]) hsrc (by simpa using hfit) h1
    rw [← hN] at hrun
    unfold Oper.wp
    simp [execOp, ho, resolve, invoke, builtin, hd, hs, hrun, Result.andThen]
    exact h _ (show _ = _ by simpa [splice] using setRow_heap w g _ _ t _ hg) (below_setRow hb hBg _) (fun q hq => setRow_other w g q _ hq)

end Go.Proofs.Ytnfdacfhhkahhaa

namespace Go.Proofs.Ytnfdacfhhkahhaa
set_option linter.unusedVariables false
set_option linter.unusedSimpArgs false
open Go.RowKit

/-- The cells of some trusts. -/
def cell3 (l : List (Value × Value × Value)) : List Value := l.flatMap (fun x => [x.1, x.2.1, x.2.2])

theorem cell3_len : ∀ (l : List (Value × Value × Value)), (cell3 l).length = l.length * 3
  | [] => rfl
  | x :: l => by
    have := cell3_len l
    unfold cell3 at *
    rw [List.flatMap_cons, List.length_append, this]
    simp; omega

theorem cell3_app (l m : List (Value × Value × Value)) : cell3 (l ++ m) = cell3 l ++ cell3 m := by unfold cell3; rw [List.flatMap_append]

theorem cell3_take : ∀ (l : List (Value × Value × Value)) (k : Nat), (cell3 l).take (k * 3) = cell3 (l.take k)
  | [], k => by simp [cell3]
  | x :: l, 0 => by simp [cell3]
  | x :: l, k + 1 => by
    have ih := cell3_take l k
    unfold cell3 at *
    rw [List.flatMap_cons, List.take_succ_cons, List.flatMap_cons, show (k + 1) * 3 = 3 + k * 3 by omega, ← ih]
    rw [List.take_append, List.take_of_length_le (by simp)]
    simp

theorem cell3_drop (l : List (Value × Value × Value)) (k : Nat) (hk : k ≤ l.length) : (cell3 l).drop (k * 3) = cell3 (l.drop k) := by
  have h : cell3 l = cell3 (l.take k) ++ cell3 (l.drop k) := by rw [← cell3_app, List.take_append_drop]
  rw [h, List.drop_append]
  have h2 : (cell3 (l.take k)).length = k * 3 := by rw [cell3_len, List.length_take, Nat.min_eq_left hk]
  rw [List.drop_of_length_le (by omega), h2, Nat.sub_self, List.drop_zero, List.nil_append]

theorem cell3_get : ∀ (l : List (Value × Value × Value)) (k : Nat) (x : Value × Value × Value), l[k]? = some x → (cell3 l)[k * 3]? = some x.1 ∧ (cell3 l)[k * 3 + 1]? = some x.2.1 ∧ (cell3 l)[k * 3 + 2]? = some x.2.2
  | [], k, x, h => by cases h
  | y :: l, 0, x, h => by
    cases h
    unfold cell3
    rw [List.flatMap_cons]
    simp
  | y :: l, k + 1, x, h => by
    have ih := cell3_get l k x (by simpa using h)
    unfold cell3 at *
    rw [List.flatMap_cons]
    refine ⟨?_, ?_, ?_⟩
    · rw [List.getElem?_append_right (by simp; omega)]; simpa [show (k + 1) * 3 - 3 = k * 3 by omega] using ih.1
    · rw [List.getElem?_append_right (by simp; omega)]; simpa [show (k + 1) * 3 + 1 - 3 = k * 3 + 1 by omega] using ih.2.1
    · rw [List.getElem?_append_right (by simp; omega)]; simpa [show (k + 1) * 3 + 2 - 3 = k * 3 + 2 by omega] using ih.2.2

/-- A row of trusts of its own, from B on, with what it refers to in blocks of Q. -/
def TRow (Q : Nat → Prop) (B d : Nat) (W : World) (v : Value) (ts : List Tree) : Prop :=
  ∃ l : List (Value × Value × Value), l.length = ts.length ∧ W.ownsRow B 32 3 v ts.length (cell3 l) ∧ ∀ (k : Nat) (x : Value × Value × Value) (T : Tree), l[k]? = some x → ts[k]? = some T → TAt Q d W x.1 x.2.1 x.2.2 T

theorem TRow.nil (Q : Nat → Prop) (B d : Nat) (W : World) : TRow Q B d W (.slice none 0 0) [] := ⟨[], rfl, World.ownsRow_nil _ _ _ _, fun k x T h => by cases h⟩

theorem TRow.own {Q : Nat → Prop} {B d : Nat} {W : World} {v : Value} {ts : List Tree} (h : TRow Q B d W v ts) : ∀ j, v.ownBlock = some j → B ≤ j ∧ j < W.heap.size := by
  obtain ⟨l, _, h1, _⟩ := h
  exact h1.lt

theorem TRow.below {Q : Nat → Prop} {B d : Nat} {W W' : World} {v : Value} {ts : List Tree} (h : TRow Q B d W v ts) (hb : Below W.heap.size W W') : TRow Q B d W' v ts := by
  obtain ⟨l, h0, h1, h2⟩ := h
  exact ⟨l, h0, own_bel h1 hb, fun k x T hx hT => (h2 k x T hx hT).below hb⟩

theorem TRow.listP {Q R : Nat → Prop} {B d : Nat} {W : World} {v : Value} {ts : List Tree} (h : TRow Q B d W v ts) (hQ : ∀ b, Q b → R b) (hB : ∀ b, B ≤ b → R b) : ListT R d W v ts := by
  obtain ⟨l, h0, h1, h2⟩ := h
  rcases h1.2 with ⟨hv, hn⟩ | ⟨g, cap, cur, hv, hb, _⟩
  · exact ⟨none, 0, by rw [hv, hn], fun k T hT => by have := (List.getElem?_eq_some_iff.1 hT).1; omega⟩
  · refine ⟨some ⟨g, 0, none⟩, cap, hv, fun k T hT => ?_⟩
    obtain ⟨x, hx⟩ : ∃ x, l[k]? = some x := ⟨_, List.getElem?_eq_getElem (by rw [h0]; exact (List.getElem?_eq_some_iff.1 hT).1)⟩
    obtain ⟨e0, e1, e2⟩ := cell3_get l k x hx
    have c : ∀ j u, (cell3 l)[j]? = some u → W.cell? ⟨g, 0 + j, none⟩ = some u := fun j u hu => by
      have := h1.cells (g := g) (by rw [hv]; rfl) j u hu
      rwa [Addr.add_lit] at this
    exact ⟨g, 0, x.1, x.2.1, x.2.2, rfl, hB g hb, c _ _ e0, by rw [Nat.add_assoc]; exact c _ _ e1, by rw [Nat.add_assoc]; exact c _ _ e2, (h2 k x T hx hT).imp (fun b _ h => hQ b h)⟩

theorem TRow.list {Q : Nat → Prop} {B d : Nat} {W : World} {v : Value} {ts : List Tree} (h : TRow Q B d W v ts) : ListT (fun _ => True) d W v ts := h.listP (fun _ _ => trivial) (fun _ _ => trivial)

/-- One element is put in at k. -/
theorem ins3 {α : Type} (X : List α) (z0 z1 z2 a b c : α) (K : Nat) (hK : K ≤ X.length) :
    ((((X ++ [z0, z1, z2]).take (K + 3) ++ X.drop K).set K a).set (K + 1) b).set (K + 2) c = X.take K ++ a :: b :: c :: X.drop K := by
  have h1 : (X ++ [z0, z1, z2]).take (K + 3) = X.take K ++ (X.drop K ++ [z0, z1, z2]).take 3 := by
    have e : X ++ [z0, z1, z2] = X.take K ++ (X.drop K ++ [z0, z1, z2]) := by rw [← List.append_assoc, List.take_append_drop]
    rw [e, List.take_append]
    rw [List.length_take, Nat.min_eq_left hK, List.take_of_length_le (by rw [List.length_take]; omega)]
    simp
  obtain ⟨r0, r1, r2, hr⟩ : ∃ r0 r1 r2, (X.drop K ++ [z0, z1, z2]).take 3 = [r0, r1, r2] := by
    have hl : ((X.drop K ++ [z0, z1, z2]).take 3).length = 3 := by rw [List.length_take, List.length_append]; simp
    generalize (X.drop K ++ [z0, z1, z2]).take 3 = R at hl
    match R, hl with
    | [a, b, c], _ => exact ⟨a, b, c, rfl⟩
  rw [h1, hr]
  have hl : (X.take K).length = K := by rw [List.length_take, Nat.min_eq_left hK]
  generalize X.take K = Y at hl
  subst hl
  rw [List.append_assoc, List.set_append_right _ _ (Nat.le_refl _), List.set_append_right _ _ (by omega), List.set_append_right _ _ (by omega)]
  simp

theorem cell3_ins (l : List (Value × Value × Value)) (x : Value × Value × Value) (k : Nat) (hk : k ≤ l.length) : (cell3 l).take (k * 3) ++ x.1 :: x.2.1 :: x.2.2 :: (cell3 l).drop (k * 3) = cell3 (l.take k ++ x :: l.drop k) := by
  rw [cell3_take, cell3_drop l k hk, cell3_app]
  congr 1

theorem get_ins {α : Type} {l : List α} {x : α} {k : Nat} (hk : k ≤ l.length) (j : Nat) : (l.take k ++ x :: l.drop k)[j]? = if j < k then l[j]? else if j = k then some x else l[j - 1]? := by
  have hl : (l.take k).length = k := by rw [List.length_take, Nat.min_eq_left hk]
  by_cases h1 : j < k
  · rw [if_pos h1, List.getElem?_append_left (by omega), List.getElem?_take, if_pos h1]
  · rw [if_neg h1, List.getElem?_append_right (by omega), hl]
    by_cases h2 : j = k
    · rw [if_pos h2, h2, Nat.sub_self]; rfl
    · rw [if_neg h2]
      obtain ⟨i, rfl⟩ : ∃ i, j = k + 1 + i := ⟨j - k - 1, by omega⟩
      rw [show k + 1 + i - k = i + 1 by omega, List.getElem?_cons_succ, List.getElem?_drop, show k + 1 + i - 1 = k + i by omega]

theorem mem_ins {α : Type} {l : List α} {x y : α} {k : Nat} : y ∈ l.take k ++ x :: l.drop k ↔ y = x ∨ y ∈ l := by
  constructor
  · intro h
    rcases List.mem_append.1 h with h | h
    · exact .inr (List.mem_of_mem_take h)
    · rcases List.mem_cons.1 h with h | h
      · exact .inl h
      · exact .inr (List.mem_of_mem_drop h)
  · rintro (h | h)
    · exact List.mem_append.2 (.inr (List.mem_cons.2 (.inl h)))
    · rw [← List.take_append_drop k l] at h
      rcases List.mem_append.1 h with h | h
      · exact List.mem_append.2 (.inl h)
      · exact List.mem_append.2 (.inr (List.mem_cons.2 (.inr h)))

theorem len_ins {α : Type} {l : List α} {x : α} {k : Nat} (hk : k ≤ l.length) : (l.take k ++ x :: l.drop k).length = l.length + 1 := by
  rw [List.length_append, List.length_cons, List.length_take, List.length_drop]; omega

/-- The first i trusts, each once. -/
structure DiffOf (ts : List Tree) (i : Nat) (ds : List Tree) : Prop where
  sub : ∀ d ∈ ds, d ∈ ts.take i
  all : ∀ t ∈ ts.take i, t ∈ ds
  len : ds.length ≤ i

theorem DiffOf.zero (ts : List Tree) : DiffOf ts 0 [] := ⟨fun d h => by simp at h, fun t h => by simp at h, by simp⟩

theorem take_mem_succ {ts : List Tree} {i : Nat} {t y : Tree} (ht : ts[i]? = some t) : y ∈ ts.take (i + 1) ↔ y ∈ ts.take i ∨ y = t := by
  rw [List.take_add_one, ht, List.mem_append]
  simp

theorem DiffOf.skip {ts ds : List Tree} {i : Nat} {t : Tree} (h : DiffOf ts i ds) (ht : ts[i]? = some t) (hm : t ∈ ds) : DiffOf ts (i + 1) ds :=
  ⟨fun d hd => (take_mem_succ ht).2 (.inl (h.sub d hd)), fun y hy => ((take_mem_succ ht).1 hy).elim (h.all y) (fun e => by rw [e]; exact hm), Nat.le_succ_of_le h.len⟩

theorem DiffOf.put {ts ds : List Tree} {i k : Nat} {t : Tree} (h : DiffOf ts i ds) (ht : ts[i]? = some t) (hk : k ≤ ds.length) : DiffOf ts (i + 1) (ds.take k ++ t :: ds.drop k) :=
  ⟨fun d hd => (take_mem_succ ht).2 ((mem_ins.1 hd).elim .inr (fun h2 => .inl (h.sub d h2))), fun y hy => mem_ins.2 (((take_mem_succ ht).1 hy).elim (fun h2 => .inr (h.all y h2)) .inl), by rw [len_ins hk]; have := h.len; omega⟩

end Go.Proofs.Ytnfdacfhhkahhaa

namespace Go.Proofs.Ytnfdacfhhkahhaa
set_option linter.unusedVariables false
set_option linter.unusedSimpArgs false
open Go.RowKit

/-- The box of the trust that is put in. -/
structure BoxD (P : Nat → Prop) (w : World) (g : Nat) (t : Int) (v1 v2 : Value) (T : Tree) (W : World) : Prop where
  box : W.heap[g]? = some (.cells #[.int .i64 t, v1, v2] 32 (0, 0))
  tat : TAt (fun b => P b ∧ b < w.heap.size) 2 W (.int .i64 t) v1 v2 T
  low : w.heap.size ≤ g
  bel : Below w.heap.size w W

theorem BoxD.below {P : Nat → Prop} {w W W' : World} {g : Nat} {t : Int} {v1 v2 : Value} {T : Tree} (h : BoxD P w g t v1 v2 T W) (hb : Below W.heap.size W W') : BoxD P w g t v1 v2 T W' :=
  ⟨(hb.block _ (Array.getElem?_eq_some_iff.1 h.box).1).trans h.box, h.tat.below hb, h.low, bstep h.bel hb⟩

theorem TAt.via {P : Nat → Prop} {w A B : World} {d : Nat} {v0 v1 v2 : Value} {T : Tree} (h : TAt (fun b => P b ∧ b < w.heap.size) d A v0 v1 v2 T) (hA : Below w.heap.size w A) (hB : Below w.heap.size w B) : TAt (fun b => P b ∧ b < w.heap.size) d B v0 v1 v2 T :=
  h.keep (fun k _ hk => (hB.block k hk.2).trans (hA.block k hk.2).symm)

theorem cell3_mem {l : List (Value × Value × Value)} {u : Value} (h : u ∈ cell3 l) : ∃ x ∈ l, u = x.1 ∨ u = x.2.1 ∨ u = x.2.2 := by
  unfold cell3 at h
  obtain ⟨x, hx, hu⟩ := List.mem_flatMap.1 h
  exact ⟨x, hx, by simpa using hu⟩

theorem cell3_one {Q : Nat → Prop} {d : Nat} {W : World} {l : List (Value × Value × Value)} {ds : List Tree} (hl : l.length = ds.length) (h : ∀ (k : Nat) (x : Value × Value × Value) (T : Tree), l[k]? = some x → ds[k]? = some T → TAt Q d W x.1 x.2.1 x.2.2 T) : ∀ u ∈ cell3 l, u.oneCell' = true := fun u hu => by
  obtain ⟨x, hx, he⟩ := cell3_mem hu
  obtain ⟨k, hk, hkx⟩ := List.getElem_of_mem hx
  have h1 : l[k]? = some x := by rw [List.getElem?_eq_getElem hk, hkx]
  obtain ⟨t, A, n, c, B, m, c', e0, e1, e2⟩ := (h k x ds[k] h1 (List.getElem?_eq_getElem (by omega))).form
  rcases he with rfl | rfl | rfl
  · rw [e0]; rfl
  · rw [e1]; rfl
  · rw [e2]; rfl

theorem TRow.ins {P : Nat → Prop} {w W W' : World} {d k : Nat} {v : Value} {l : List (Value × Value × Value)} {ds : List Tree} {x0 x1 x2 : Value} {T : Tree} (hl : l.length = ds.length) (h : ∀ (k : Nat) (x : Value × Value × Value) (T : Tree), l[k]? = some x → ds[k]? = some T → TAt (fun b => P b ∧ b < w.heap.size) d W x.1 x.2.1 x.2.2 T)
    (hk : k ≤ ds.length) (hb : Below w.heap.size w W) (hb' : Below w.heap.size w W') (hT : TAt (fun b => P b ∧ b < w.heap.size) d W x0 x1 x2 T) (hown : W'.ownsRow w.heap.size 32 3 v (ds.length + 1) ((cell3 l).take (k * 3) ++ x0 :: x1 :: x2 :: (cell3 l).drop (k * 3))) :
    TRow (fun b => P b ∧ b < w.heap.size) w.heap.size d W' v (ds.take k ++ T :: ds.drop k) := by
  refine ⟨l.take k ++ (x0, x1, x2) :: l.drop k, by rw [len_ins (by omega), len_ins hk, hl], ?_, fun j x U hx hU => ?_⟩
  · have e := cell3_ins l (x0, x1, x2) k (by omega)
    rw [len_ins hk, ← e]
    exact hown
  · rw [get_ins (by omega)] at hx
    rw [get_ins hk] at hU
    by_cases h1 : j < k
    · rw [if_pos h1] at hx hU
      exact TAt.via (h j x U hx hU) hb hb'
    · rw [if_neg h1] at hx hU
      by_cases h2 : j = k
      · rw [if_pos h2] at hx hU
        cases hx; cases hU
        exact TAt.via hT hb hb'
      · rw [if_neg h2] at hx hU
        exact TAt.via (h _ x U hx hU) hb hb'

def MetP (m : Bool) (T : Tree) (ds : List Tree) : Prop := m = true → T ∈ ds

theorem own_blockM {W : World} {B g n cq m : Nat} {e : TypeId} {xs : List Value} (h : W.ownsRow B e m (.slice (some ⟨g, 0, none⟩) n cq) n xs) : ∃ cur : List Value, W.heap[g]? = some (.cells cur.toArray e (0, 0)) ∧ B ≤ g ∧ n ≤ cq ∧ cq ≤ maxLen ∧ cur.length = cq * m ∧ cur.take (n * m) = xs := by
  rcases h.2 with ⟨h', _⟩ | ⟨g', cap', cur, h', hb, hg, h1, h2, h3, h4⟩
  · simp at h'
  · simp only [Value.slice.injEq, Option.some.injEq, Addr.mk.injEq, and_true, true_and] at h'
    obtain ⟨rfl, rfl⟩ := h'
    exact ⟨cur.toList, by simpa using hg, hb, h1, h2, by simpa using h3, by simpa using h4⟩

theorem src_cellsM {W : World} {B g n cq m : Nat} {e : TypeId} {xs : List Value} (h : W.ownsRow B e m (.slice (some ⟨g, 0, none⟩) n cq) n xs) (k : Nat) : ∀ j v, (xs.drop k)[j]? = some v → W.cell? ((⟨g, k, none⟩ : Addr).add j) = some v := fun j v hv => by
  rw [List.getElem?_drop] at hv
  have h1 := h.cells (g := g) rfl (k + j) v hv
  rw [Addr.add_lit] at h1 ⊢
  simpa using h1

theorem own_splice3 {W : World} {B g n cq k : Nat} {e : TypeId} {cur : List Value} {xs : List Value} {z0 z1 z2 : Value} (hx : xs.length = n * 3) (hk : k ≤ n) (hb : B ≤ g) (h1 : n + 1 ≤ cq) (h2 : cq ≤ maxLen) (h3 : cur.length = cq * 3) (h4 : cur.take ((n + 1) * 3) = xs ++ [z0, z1, z2]) (hg : W.heap[g]? = some (.cells (splice cur ((k + 1) * 3) (xs.drop (k * 3))).toArray e (0, 0))) :
    W.ownsRow B e 3 (.slice (some ⟨g, 0, none⟩) (n + 1) cq) (n + 1) ((xs ++ [z0, z1, z2]).take (k * 3 + 3) ++ xs.drop (k * 3)) := by
  have hd : (xs.drop (k * 3)).length = (n - k) * 3 := by rw [List.length_drop, hx]; omega
  have ht : ((xs ++ [z0, z1, z2]).take (k * 3 + 3)).length = k * 3 + 3 := by rw [List.length_take, List.length_append, hx]; simp; omega
  refine ⟨by rw [List.length_append, hd, ht]; omega, .inr ⟨g, cq, _, rfl, hb, hg, h1, h2, ?_, ?_⟩⟩
  · rw [List.size_toArray, length_splice _ _ _ (by rw [hd]; omega)]; omega
  · rw [← h4]
    show ((splice cur ((k + 1) * 3) (xs.drop (k * 3))).toArray.toList).take ((n + 1) * 3) = _
    unfold splice
    have hc : (cur.take ((k + 1) * 3)).length = (k + 1) * 3 := by rw [List.length_take]; omega
    rw [List.take_take, show min (k * 3 + 3) ((n + 1) * 3) = (k + 1) * 3 by omega, ← List.append_assoc, List.take_append_of_le_length (by rw [List.length_append, hc, hd]; omega)]
    rw [List.take_of_length_le (by rw [List.length_append, hc, hd]; omega)]

set_option maxRecDepth 100000 in
set_option maxHeartbeats 8000000 in
theorem different_run (P : Nat → Prop) (ts : List Tree) (v : Value) (w : World) (hn : ts.length ≤ 3) (h : ListT P 2 w v ts) :
    Calls Try.prog 77 #[v] w fun e w' => ∃ v' ds, e = .returned v' ∧ ListT (fun b => P b ∨ w.heap.size ≤ b) 2 w' v' ds ∧ DiffOf ts ts.length ds ∧ Below w.heap.size w w' := by
  obtain ⟨i0, hi, hz0, hz1, hz2⟩ := info_parts infoTr
  obtain ⟨A, c, rfl⟩ := h.slice
  have H := Lib.hid h
  obtain ⟨n, hnn⟩ : ∃ n, ts.length = n := ⟨_, rfl⟩
  have HNN := Lib.hid hnn
  rw [hnn] at hn H ⊢
  clear h hnn
  go_enter Try.func77, Try.ntmps77
  go_wp2_with fail
  go_loopw [3, 13] (fun u t W => ∃ (i : Nat) (ds : List Tree) (vv : Value), i ≤ n ∧ u = vv ∧ t = .int .i64 i ∧ Hid (TRow (fun b => P b ∧ b < w.heap.size) w.heap.size 2 W vv ds) ∧ Hid (DiffOf ts i ds) ∧ Hid (Below w.heap.size w W)) (fun _ t _ => n - (intOf t).toNat)
  case atStart => exact ⟨0, [], .slice none 0 0, Nat.zero_le _, rfl, rfl, Lib.hid (TRow.nil _ _ _ _), Lib.hid (DiffOf.zero _), Lib.hid (bref _)⟩
  case round =>
    obtain ⟨i, ds, vv, hi2, hv, rfl, hR, hD, hB⟩ := hrel
    replace hv := hv.symm
    subst hv
    by_cases hlt : i < n
    · obtain ⟨T, hT⟩ : ∃ T, ts[i]? = some T := ⟨_, List.getElem?_eq_getElem (by rw [HNN.out]; exact hlt)⟩
      obtain ⟨An, cn, hAn, hLc⟩ := H.out
      injection hAn with q1 q2 q3
      subst q1
      obtain ⟨b, off, x0, x1, x2, rfl, _, e0, e1, e2, hTk⟩ := hLc i T hT
      obtain ⟨t', A1, n1, c1, A2, n2, c2, rfl, rfl, rfl⟩ := hTk.form
      have d0 := (hB.out.cell (cell_lt e0)).trans e0
      have d1 := (hB.out.cell (cell_lt e1)).trans e1
      have d2 := (hB.out.cell (cell_lt e2)).trans e2
      have hTo := ((hTk.imp (Q := fun b => P b ∧ b < w.heap.size) (fun _ hk hP => ⟨hP, hk⟩)).below hB.out).below (balloc (bref wr) (.cells #[.int .i64 t', .slice A1 n1 c1, .slice A2 n2 c2] 32))
      have HX := Lib.hid (show BoxD P w wr.heap.size t' (.slice A1 n1 c1) (.slice A2 n2 c2) T (wr.alloc (.cells #[.int .i64 t', .slice A1 n1 c1, .slice A2 n2 c2] 32)) from ⟨alloc_at rfl, hTo, hB.out.size, balloc hB.out _⟩)
      have HR := Lib.hid (hR.out.below (balloc (bref wr) (.cells #[.int .i64 t', .slice A1 n1 c1, .slice A2 n2 c2] 32)))
      have HTS := Lib.hid hT
      clear e0 e1 e2 hTk hTo hLc q2 q3 hT
      obtain ⟨Ao, co, hvo⟩ : ∃ Ao co, vv = .slice Ao ds.length co := by
        obtain ⟨A', c', h1, _⟩ := hR.out.list
        exact ⟨A', c', h1⟩
      subst hvo
      obtain ⟨no, hno⟩ : ∃ no, ds.length = no := ⟨_, rfl⟩
      have hnol : no ≤ 3 := by have := hD.out.len; omega
      have HNO := Lib.hid hno
      rw [hno] at HR ⊢
      have HOWN := Lib.hid (show ∀ q, (Value.slice Ao no co).ownBlock = some q → q < wr.heap.size from fun q hq => (hR.out.own q (by rw [hno]; exact hq)).2)
      clear hno hR hB
      go_upto_region 5 with fail
      generalize hg5 : wr.heap.size = g5 at *
      generalize (wr.alloc (.cells #[.int .i64 t', .slice A1 n1 c1, .slice A2 n2 c2] 32)) = W3 at *
      clear d0 d1 d2 hg5
      go_wp2_with fail
      go_loopw [6, 7, 19] (fun k m t W => ∃ (j kk : Nat) (mb : Bool), j ≤ no ∧ kk ≤ j ∧ k = .int .i64 kk ∧ m = .bool mb ∧ t = .int .i64 j ∧ Hid (MetP mb T ds) ∧ Hid (Below W3.heap.size W3 W)) (fun _ _ t _ => no - (intOf t).toNat)
      case atStart => exact ⟨0, 0, false, Nat.zero_le _, Nat.le_refl _, rfl, rfl, rfl, Lib.hid (show MetP false T ds from fun h => by cases h), Lib.hid (bref _)⟩
      case round =>
        obtain ⟨j, kk, mb, hj, hkj, rfl, rfl, rfl, hM, hB4⟩ := hrel
        have HX4 := Lib.hid (HX.out.below hB4.out)
        have HR4 := Lib.hid (HR.out.below hB4.out)
        by_cases hlt2 : j < no
        · obtain ⟨l, hl0, hown, hl2⟩ := HR4.out
          obtain ⟨y, hy⟩ : ∃ y, l[j]? = some y := ⟨_, List.getElem?_eq_getElem (by rw [hl0, HNO.out]; exact hlt2)⟩
          obtain ⟨D, hDj⟩ : ∃ D, ds[j]? = some D := ⟨_, List.getElem?_eq_getElem (by rw [HNO.out]; exact hlt2)⟩
          have hTD := hl2 j y D hy hDj
          obtain ⟨f0, f1, f2⟩ := cell3_get l j y hy
          obtain ⟨y0, y1, y2⟩ := y
          obtain ⟨u', B1, m1, z1, B2, m2, z2, rfl, rfl, rfl⟩ := hTD.form
          rcases hown.2 with ⟨hv, h0⟩ | ⟨gb, cap, cur, hv, hbg, _⟩
          · exfalso; rw [HNO.out] at h0; omega
          · have hv' := hv
            injection hv' with v1 v2 v3
            subst v1
            have cc : ∀ q u, (cell3 l)[q]? = some u → wr.cell? ⟨gb, q, none⟩ = some u := fun q u hu => by
              have := hown.cells (g := gb) rfl q u hu
              rwa [Addr.add_lit, Nat.zero_add] at this
            have d0 := cc _ _ f0
            have d1 := cc _ _ f1
            have d2 := cc _ _ f2
            have HMem := Lib.hid (List.mem_of_getElem? hDj)
            have b0 : wr.cell? ⟨g5, 0, none⟩ = some (.int .i64 t') := cell_of_row _ _ 0 _ _ (0, 0) HX4.out.box
            have b1 : wr.cell? ⟨g5, 1, none⟩ = some (.slice A1 n1 c1) := cell_of_row _ _ 1 _ _ (0, 0) HX4.out.box
            have b2 : wr.cell? ⟨g5, 2, none⟩ = some (.slice A2 n2 c2) := cell_of_row _ _ 2 _ _ (0, 0) HX4.out.box
            have HTD := Lib.hid (hTD.below (balloc (bref wr) (.cells #[.int .i64 u', .slice B1 m1 z1, .slice B2 m2 z2] 32)))
            have HTT := Lib.hid (HX4.out.tat.below (balloc (bref wr) (.cells #[.int .i64 u', .slice B1 m1 z1, .slice B2 m2 z2] 32)))
            have HB5 := Lib.hid (balloc hB4.out (.cells #[.int .i64 u', .slice B1 m1 z1, .slice B2 m2 z2] 32))
            have hg5l : g5 < wr.heap.size := (Array.getElem?_eq_some_iff.1 HX4.out.box).1
            clear hl2 hTD f0 f1 f2 hown hv hbg cc hl0 hy hDj v2 v3
            go_wp2_with fail
            refine (tcmp_run 2 _ _ D T _ _ _ _ _ _ _ HTD.out HTT.out).mono ?_
            rintro e w6 ⟨⟨cc, rfl, hcc⟩, hb6⟩
            have HB6 := Lib.hid (bstep HB5.out hb6)
            have HCC := Lib.hid (show cc = 0 → T ∈ ds from fun h => by rw [← hcc h]; exact HMem.out)
            clear hb6 hcc
            rcases (show mb = false ∨ mb = true by cases mb <;> simp) with rfl | rfl
            · by_cases h0 : cc = 0
              · have HM2 := Lib.hid (show MetP true T ds from fun _ => HCC.out h0)
                subst h0
                clear HCC hM
                go_wp2_with fail
                go_roundw
                case rel => exact ⟨j + 1, kk, true, hlt2, by omega, rfl, rfl, by go_num, HM2, HB6⟩
                case measure => simp [intOf]; omega
              · have q0 : (cc == 0) = false := beq_eq_false_iff_ne.2 h0
                by_cases h1 : cc < 0
                · go_wp2_with fail
                  go_roundw
                  case rel => exact ⟨j + 1, j + 1, false, hlt2, Nat.le_refl _, by go_num, rfl, by go_num, hM, HB6⟩
                  case measure => simp [intOf]; omega
                · go_wp2_with fail
                  go_roundw
                  case rel => exact ⟨j + 1, kk, false, hlt2, by omega, rfl, rfl, by go_num, hM, HB6⟩
                  case measure => simp [intOf]; omega
            · by_cases h1 : cc < 0
              · go_wp2_with fail
                go_roundw
                case rel => exact ⟨j + 1, j + 1, true, hlt2, Nat.le_refl _, by go_num, rfl, by go_num, hM, HB6⟩
                case measure => simp [intOf]; omega
              · go_wp2_with fail
                go_roundw
                case rel => exact ⟨j + 1, kk, true, hlt2, by omega, rfl, rfl, by go_num, hM, HB6⟩
                case measure => simp [intOf]; omega
        · obtain rfl : j = no := by omega
          rcases (show mb = true ∨ mb = false by cases mb <;> simp) with rfl | rfl
          · have HD2 := Lib.hid (hD.out.skip HTS.out (hM.out rfl))
            have HBx := Lib.hid HX4.out.bel
            go_wp2_with fail
            go_roundw
            case rel => exact ⟨i + 1, ds, _, hlt, rfl, by go_num, HR4, HD2, HBx⟩
            case measure => simp [intOf]; omega
          · obtain ⟨l, hl0, hown, hl2⟩ := HR4.out
            rw [HNO.out] at hl0 hown
            have HL2 := Lib.hid hl2
            have HL0 := Lib.hid hl0
            have HIN := Lib.hid (hD.out.put HTS.out (k := kk) (by rw [HNO.out]; exact hkj))
            obtain ⟨X, hX⟩ : ∃ X, X = cell3 l := ⟨_, rfl⟩
            have HXE := Lib.hid hX
            have hXl : X.length = j * 3 := by rw [hX, cell3_len, hl0]
            have HXL := Lib.hid hXl
            rw [← hX] at hown
            have hsz := HX4.out.bel.size
            clear hl2 hl0 hX hXl hM
            go_upto_region 16 with (at_builtin; refine wpList_append_lies _ rfl _ _ 30 rfl w.heap.size 32 i0 (.agg #[.int .i64 0, .slice none 0 0, .slice none 0 0]) 3 56 Try.underlying30 hi hz0 hz1 hz2 rfl (by decide) _ j X rfl (by exact (hown.alloc _)) ⟨wr.heap.size, 0, none⟩ 1 1 [.int .i64 0, .slice none 0 0, .slice none 0 0] rfl rfl (cell_three_new _ _ _ _ _) (by intro u hu; simp at hu; rcases hu with rfl | rfl | rfl <;> rfl) (by omega) (by unfold maxLen; omega) (by omega) (by simp; omega) _ rfl ?_; intro gq cq W6 hown6 hgrow6 hat6 hlq)
            have HB6 := Lib.hid (Below.grown (balloc HX4.out.bel (.cells #[.int .i64 0, .slice none 0 0, .slice none 0 0] 32)) hgrow6 (by simp; omega) (fun j hj => (hown.lt j hj).1))
            have hne : gq ≠ g5 := by
              have h5 := (Array.getElem?_eq_some_iff.1 HX4.out.box).1
              rcases hat6 with h1 | h1
              · have := HOWN.out _ h1; omega
              · rw [h1, alloc_sz]; omega
            have HX6 := Lib.hid (show BoxD P w g5 t' (.slice A1 n1 c1) (.slice A2 n2 c2) T W6 from ⟨(hgrow6.block g5 (by rw [alloc_sz]; have := (Array.getElem?_eq_some_iff.1 HX4.out.box).1; omega) (fun e => by have := HOWN.out _ e.symm; omega)).trans (alloc_on HX4.out.box), TAt.via HX4.out.tat HX4.out.bel HB6.out, HX4.out.low, HB6.out⟩)
            obtain ⟨cur, hcg, hgB, hnc, hcm, hcl, hct⟩ := own_blockM hown6
            have HSRC := Lib.hid (show ∀ q v, (X.drop (kk * 3))[q]? = some v → W6.cell? ((⟨gq, kk * 3, none⟩ : Addr).add q) = some v from fun q v hv => src_cellsM hown6 (kk * 3) q v (by
              rw [List.getElem?_drop] at hv ⊢
              rw [List.getElem?_append_left (List.getElem?_eq_some_iff.1 hv).1]
              exact hv))
            have H1C := Lib.hid (show ∀ u ∈ X.drop (kk * 3), u.oneCell' = true from fun u hu => cell3_one (by rw [HL0.out, HNO.out]) HL2.out u (by rw [← HXE.out]; exact List.mem_of_mem_drop hu))
            have HCG := Lib.hid hcg
            have HCT := Lib.hid hct
            have hcl64 : cq ≤ 9223372036854775807 := by unfold maxLen at hcm; omega
            have HCM := Lib.hid hcm
            have HCLL := Lib.hid hcl
            have HSZ := Lib.hid (show (Try.prog.info? 32).map (·.size) = some 3 by rw [hi]; simp [hz1])
            have HCL := Lib.hid (show (X.drop (kk * 3)).length = (j - kk) * 3 by rw [List.length_drop, HXL.out]; omega)
            clear hcg hct hcm hcl hown6 hgrow6 hat6 hown
            obtain ⟨k1, hk1⟩ : ∃ k1, k1 = kk + 1 := ⟨_, rfl⟩
            have HK1 := Lib.hid hk1
            have hwk : IntKind.i64.wrap ((kk : Int) + 1) = (k1 : Int) := (IntWalk.i64_in _ (by omega)).trans (by omega)
            have hk1q : (k1 : Int) ≤ (j : Int) + 1 := by omega
            have hkq : (kk : Int) ≤ (j : Int) + 1 := by omega
            have hck : ¬ cq = kk := by omega
            have HKQ := Lib.hid (show k1 + (j - kk) = j + 1 ∧ j + 1 - k1 = j - kk ∧ j - kk ≤ j + 1 - kk by omega)
            have HK0 := Lib.hid (show cq = k1 → j - kk = 0 from fun h => by omega)
            clear hk1
            by_cases hkc : cq = k1
            · subst hkc
              have hkc2 : ¬ cq = kk := hck
              go_region_law (refine step_copy_spliceM rfl (.tmp 45) (.tmp 48) 30 30 rfl 32 3 (by decide) Try.underlying30 HSZ.out (some ⟨gq, 0, none⟩) (some ⟨gq, kk * 3, none⟩) 0 0 (j + 1 - kk) (cq - kk) (by simp [Act.eval, Act.put, hkc2]) (by simp [Act.eval, Act.put, hkc2]) gq (cq * 3) cur 32 (by exact HCG.out) (X.drop (kk * 3)) (j - kk) ((show ∀ a b c : Nat, c = min a b → c = Nat.min a b from fun _ _ _ h => h) _ _ _ (by have h1 := HKQ.out; have h2 := HK0.out rfl; omega)) HCL.out (fun h0 => absurd h0 (by rw [HCL.out, HK0.out rfl]; omega)) (by rw [HCL.out, HCLL.out, HK0.out rfl]; omega) H1C.out w.heap.size w (by exact bstep HB6.out (bdrew' _)) hgB ?_; intro W7 hW7 hb7 hfar7)
              all_goals
                have own4 := own_splice3 (W := W7) (B := w.heap.size) (z0 := .int .i64 0) (z1 := .slice none 0 0) (z2 := .slice none 0 0) HXL.out hkj hgB hnc HCM.out HCLL.out HCT.out (by have h := hW7.out; rw [HK1.out] at h; exact h)
                have hyl : ((X ++ [Value.int .i64 0, .slice none 0 0, .slice none 0 0]).take (kk * 3 + 3) ++ X.drop (kk * 3)).length = (j + 1) * 3 := own4.1
                have hx7 : W7.heap[g5]? = some (.cells #[.int .i64 t', .slice A1 n1 c1, .slice A2 n2 c2] 32 (0, 0)) := (hfar7 g5 (by omega)).trans HX6.out.box
                have b0 : W7.cell? ⟨g5, 0, none⟩ = some (.int .i64 t') := cell_of_row _ _ 0 _ _ (0, 0) hx7
                have b1 : W7.cell? ⟨g5, 1, none⟩ = some (.slice A1 n1 c1) := cell_of_row _ _ 1 _ _ (0, 0) hx7
                have b2 : W7.cell? ⟨g5, 2, none⟩ = some (.slice A2 n2 c2) := cell_of_row _ _ 2 _ _ (0, 0) hx7
                have st0 := own4.stored (kk * 3) (.int .i64 t')
                have st1 := st0.1.stored (kk * 3 + 1) (.slice A1 n1 c1)
                have st2 := st1.1.stored (kk * 3 + 2) (.slice A2 n2 c2)
                have HO5 := Lib.hid st2.1
                have HB8 := Lib.hid (Below.grown (Below.grown (Below.grown hb7 st0.2 hb7.size (fun q hq => by cases hq; exact hgB)) st1.2 (by simp; exact hb7.size) (fun q hq => by cases hq; exact hgB)) st2.2 (by simp; exact hb7.size) (fun q hq => by cases hq; exact hgB))
                have z0 := own4.cellAt (kk * 3) (by omega)
                have z1 := own4.cellAt (kk * 3 + 1) (by omega)
                have z2 := own4.cellAt (kk * 3 + 2) (by omega)
                obtain ⟨u0, hu0⟩ : ∃ u, ((X ++ [Value.int .i64 0, .slice none 0 0, .slice none 0 0]).take (kk * 3 + 3) ++ X.drop (kk * 3))[kk * 3]? = some u := ⟨_, List.getElem?_eq_getElem (by rw [hyl]; omega)⟩
                obtain ⟨u1, hu1⟩ : ∃ u, ((X ++ [Value.int .i64 0, .slice none 0 0, .slice none 0 0]).take (kk * 3 + 3) ++ X.drop (kk * 3))[kk * 3 + 1]? = some u := ⟨_, List.getElem?_eq_getElem (by rw [hyl]; omega)⟩
                obtain ⟨u2, hu2⟩ : ∃ u, ((X ++ [Value.int .i64 0, .slice none 0 0, .slice none 0 0]).take (kk * 3 + 3) ++ X.drop (kk * 3))[kk * 3 + 2]? = some u := ⟨_, List.getElem?_eq_getElem (by rw [hyl]; omega)⟩
                rw [hu0] at z0
                rw [hu1] at z1
                rw [hu2] at z2
                clear hu0 hu1 hu2
                have hf0 := own4.frozenAt (kk * 3)
                have hf1 := own4.frozenAt (kk * 3 + 1)
                have hf2 := own4.frozenAt (kk * 3 + 2)
                have hkl : (kk : Int) < (j : Int) + 1 := by omega
                have HFIN := Lib.hid (TRow.ins (W := wr) (W' := ((W7.setCell ⟨gq, kk * 3, none⟩ (.int .i64 t')).setCell ⟨gq, kk * 3 + 1, none⟩ (.slice A1 n1 c1)).setCell ⟨gq, kk * 3 + 2, none⟩ (.slice A2 n2 c2)) (v := .slice (some ⟨gq, 0, none⟩) (j + 1) cq) (k := kk) (by rw [HL0.out, HNO.out]) HL2.out (by rw [HNO.out]; exact hkj) HX4.out.bel HB8.out HX4.out.tat (by
                  rw [HNO.out, ← HXE.out]
                  have h := HO5.out
                  rw [ins3 X _ _ _ _ _ _ (kk * 3) (by rw [HXL.out]; omega)] at h
                  exact h))
                clear own4 st0 st1 st2 hyl hb7 hW7 HSRC HCG hfar7 hx7
                go_wp2_with fail
                go_roundw
                case rel => exact ⟨i + 1, _, _, hlt, rfl, by go_num, HFIN, HIN, HB8⟩
                case measure => simp [intOf]; omega
            · go_region_law (refine step_copy_spliceM rfl (.tmp 45) (.tmp 48) 30 30 rfl 32 3 (by decide) Try.underlying30 HSZ.out (some ⟨gq, k1 * 3, none⟩) (some ⟨gq, kk * 3, none⟩) (j + 1 - k1) (cq - k1) (j + 1 - kk) (cq - kk) (by simp [Act.eval, Act.put]) (by simp [Act.eval, Act.put]) gq (k1 * 3) cur 32 (by exact HCG.out) (X.drop (kk * 3)) (j - kk) ((show ∀ a b c : Nat, c = min a b → c = Nat.min a b from fun _ _ _ h => h) _ _ _ (by have := HKQ.out; omega)) HCL.out (fun h0 => ⟨rfl, _, rfl, HSRC.out⟩) (by rw [HCL.out, HCLL.out]; have := HKQ.out; omega) H1C.out w.heap.size w (by exact bstep HB6.out (bdrew' _)) hgB ?_; intro W7 hW7 hb7 hfar7)
              all_goals
                have own4 := own_splice3 (W := W7) (B := w.heap.size) (z0 := .int .i64 0) (z1 := .slice none 0 0) (z2 := .slice none 0 0) HXL.out hkj hgB hnc HCM.out HCLL.out HCT.out (by have h := hW7.out; rw [HK1.out] at h; exact h)
                have hyl : ((X ++ [Value.int .i64 0, .slice none 0 0, .slice none 0 0]).take (kk * 3 + 3) ++ X.drop (kk * 3)).length = (j + 1) * 3 := own4.1
                have hx7 : W7.heap[g5]? = some (.cells #[.int .i64 t', .slice A1 n1 c1, .slice A2 n2 c2] 32 (0, 0)) := (hfar7 g5 (by omega)).trans HX6.out.box
                have b0 : W7.cell? ⟨g5, 0, none⟩ = some (.int .i64 t') := cell_of_row _ _ 0 _ _ (0, 0) hx7
                have b1 : W7.cell? ⟨g5, 1, none⟩ = some (.slice A1 n1 c1) := cell_of_row _ _ 1 _ _ (0, 0) hx7
                have b2 : W7.cell? ⟨g5, 2, none⟩ = some (.slice A2 n2 c2) := cell_of_row _ _ 2 _ _ (0, 0) hx7
                have st0 := own4.stored (kk * 3) (.int .i64 t')
                have st1 := st0.1.stored (kk * 3 + 1) (.slice A1 n1 c1)
                have st2 := st1.1.stored (kk * 3 + 2) (.slice A2 n2 c2)
                have HO5 := Lib.hid st2.1
                have HB8 := Lib.hid (Below.grown (Below.grown (Below.grown hb7 st0.2 hb7.size (fun q hq => by cases hq; exact hgB)) st1.2 (by simp; exact hb7.size) (fun q hq => by cases hq; exact hgB)) st2.2 (by simp; exact hb7.size) (fun q hq => by cases hq; exact hgB))
                have z0 := own4.cellAt (kk * 3) (by omega)
                have z1 := own4.cellAt (kk * 3 + 1) (by omega)
                have z2 := own4.cellAt (kk * 3 + 2) (by omega)
                obtain ⟨u0, hu0⟩ : ∃ u, ((X ++ [Value.int .i64 0, .slice none 0 0, .slice none 0 0]).take (kk * 3 + 3) ++ X.drop (kk * 3))[kk * 3]? = some u := ⟨_, List.getElem?_eq_getElem (by rw [hyl]; omega)⟩
                obtain ⟨u1, hu1⟩ : ∃ u, ((X ++ [Value.int .i64 0, .slice none 0 0, .slice none 0 0]).take (kk * 3 + 3) ++ X.drop (kk * 3))[kk * 3 + 1]? = some u := ⟨_, List.getElem?_eq_getElem (by rw [hyl]; omega)⟩
                obtain ⟨u2, hu2⟩ : ∃ u, ((X ++ [Value.int .i64 0, .slice none 0 0, .slice none 0 0]).take (kk * 3 + 3) ++ X.drop (kk * 3))[kk * 3 + 2]? = some u := ⟨_, List.getElem?_eq_getElem (by rw [hyl]; omega)⟩
                rw [hu0] at z0
                rw [hu1] at z1
                rw [hu2] at z2
                clear hu0 hu1 hu2
                have hf0 := own4.frozenAt (kk * 3)
                have hf1 := own4.frozenAt (kk * 3 + 1)
                have hf2 := own4.frozenAt (kk * 3 + 2)
                have hkl : (kk : Int) < (j : Int) + 1 := by omega
                have HFIN := Lib.hid (TRow.ins (W := wr) (W' := ((W7.setCell ⟨gq, kk * 3, none⟩ (.int .i64 t')).setCell ⟨gq, kk * 3 + 1, none⟩ (.slice A1 n1 c1)).setCell ⟨gq, kk * 3 + 2, none⟩ (.slice A2 n2 c2)) (v := .slice (some ⟨gq, 0, none⟩) (j + 1) cq) (k := kk) (by rw [HL0.out, HNO.out]) HL2.out (by rw [HNO.out]; exact hkj) HX4.out.bel HB8.out HX4.out.tat (by
                  rw [HNO.out, ← HXE.out]
                  have h := HO5.out
                  rw [ins3 X _ _ _ _ _ _ (kk * 3) (by rw [HXL.out]; omega)] at h
                  exact h))
                clear own4 st0 st1 st2 hyl hb7 hW7 HSRC HCG hfar7 hx7
                go_wp2_with fail
                go_roundw
                case rel => exact ⟨i + 1, _, _, hlt, rfl, by go_num, HFIN, HIN, HB8⟩
                case measure => simp [intOf]; omega
    · obtain rfl : i = n := by omega
      have HF := Lib.hid (And.intro (hR.out.listP (R := fun b => P b ∨ w.heap.size ≤ b) (fun b h => .inl h.1) (fun b h => .inr h)) (And.intro hD.out hB.out))
      go_wp2_with fail
      go_ret
      exact ⟨_, ds, rfl, HF.out.1, HF.out.2.1, HF.out.2.2⟩

end Go.Proofs.Ytnfdacfhhkahhaa

namespace Go.Proofs.Ytnfdacfhhkahhaa
set_option linter.unusedVariables false
set_option linter.unusedSimpArgs false
open Go.RowKit

theorem holds_up {n : Int} {p : Int → Bool} : ∀ (d : Nat) (T : Tree), WF n d T → holdsT (d + 1) p T = holdsT d p T
  | 0, T, h => h.elim
  | d + 1, .mk thr ns is, h => by
    obtain ⟨_, _, _, _, _, _, hi⟩ := h
    have e : is.filter (holdsT (d + 1) p) = is.filter (holdsT d p) := List.filter_congr (fun T hT => holds_up d T (hi T hT))
    show decide (thr ≤ ((cnt p ns + cnt (holdsT (d + 1) p) is : Nat) : Int)) = decide (thr ≤ ((cnt p ns + cnt (holdsT d p) is : Nat) : Int))
    unfold cnt
    rw [e]

theorem holds_any {p : Int → Bool} {d : Nat} (ds : List Tree) : holdsT (d + 1) p (.mk 1 [] ds) = ds.any (holdsT d p) := by
  show decide ((1 : Int) ≤ ((cnt p [] + cnt (holdsT d p) ds : Nat) : Int)) = _
  rw [Bool.eq_iff_iff, decide_eq_true_iff, List.any_eq_true]
  unfold cnt
  constructor
  · intro h
    have h2 : 0 < (ds.filter (holdsT d p)).length := by simp at h; omega
    obtain ⟨x, hx⟩ := List.exists_mem_of_length_pos h2
    exact ⟨x, (List.mem_filter.1 hx).1, (List.mem_filter.1 hx).2⟩
  · rintro ⟨x, h1, h2⟩
    have h3 := List.length_pos_of_mem (List.mem_filter.2 ⟨h1, h2⟩)
    simp; omega

theorem holds_all {p : Int → Bool} {d : Nat} (ds : List Tree) : holdsT (d + 1) p (.mk (ds.length : Int) [] ds) = ds.all (holdsT d p) := by
  show decide ((ds.length : Int) ≤ ((cnt p [] + cnt (holdsT d p) ds : Nat) : Int)) = _
  rw [Bool.eq_iff_iff, decide_eq_true_iff, List.all_eq_true]
  unfold cnt
  constructor
  · intro h x hx
    have h2 : (ds.filter (holdsT d p)).length = ds.length := by
      have := List.length_filter_le (holdsT d p) ds
      simp at h; omega
    exact List.length_filter_eq_length_iff.1 h2 x hx
  · intro h
    have h2 := List.length_filter_eq_length_iff.2 h
    simp; omega

/-- What a list of trusts is joined to. -/
def JoinT (all : Bool) (n : Int) (ts : List Tree) (m : Mem) : Prop :=
  (ts = [] → m = (false, .mk 0 [] [])) ∧ (ts ≠ [] → m.1 = true ∧ WF n 3 m.2 ∧ ∃ ds : List Tree, ds ≠ [] ∧ (∀ d, d ∈ ds ↔ d ∈ ts) ∧ ∀ p, holdsT 3 p m.2 = if all then ds.all (holdsT 2 p) else ds.any (holdsT 2 p))

theorem diff_mem {ts ds : List Tree} (h : DiffOf ts ts.length ds) (d : Tree) : d ∈ ds ↔ d ∈ ts := by
  have h1 := h.sub
  have h2 := h.all
  rw [List.take_length] at h1 h2
  exact ⟨h1 d, h2 d⟩

theorem join_nil {all : Bool} {n : Int} {ts ds : List Tree} (h : DiffOf ts ts.length ds) (h0 : ds.length = 0) : JoinT all n ts (false, .mk 0 [] []) := by
  have hts : ts = [] := by
    cases ts with
    | nil => rfl
    | cons t ts =>
      have := (diff_mem h t).2 (by simp)
      rw [List.eq_nil_of_length_eq_zero h0] at this
      cases this
  exact ⟨fun _ => rfl, fun h => absurd hts h⟩

theorem diff_ne {ts ds : List Tree} (h : DiffOf ts ts.length ds) (h0 : 0 < ds.length) : ts ≠ [] := by
  rintro rfl
  have h1 : ds.length ≤ 0 := h.len
  omega

theorem join_one {all : Bool} {n : Int} {ts ds : List Tree} {d : Tree} (h : DiffOf ts ts.length ds) (hw : ∀ t ∈ ts, WF n 2 t) (h1 : ds.length = 1) (hd : ds[0]? = some d) : JoinT all n ts (true, d) := by
  have e : ds = [d] := by
    match ds, h1, hd with
    | [x], _, hd => simp at hd; rw [hd]
  have hm : d ∈ ts := (diff_mem h d).1 (by rw [e]; simp)
  refine ⟨fun h0 => absurd h0 (diff_ne h (by omega)), fun _ => ⟨rfl, D3.WF.up (hw d hm), ds, by rw [e]; simp, diff_mem h, fun p => ?_⟩⟩
  rw [holds_up 2 d (hw d hm), e]
  cases all <;> simp

theorem join_more {all : Bool} {n : Int} {ts ds : List Tree} {thr : Int} (h : DiffOf ts ts.length ds) (hw : ∀ t ∈ ts, WF n 2 t) (h3 : ts.length ≤ 3) (h1 : 0 < ds.length) (ht : thr = if all then (ds.length : Int) else 1) : JoinT all n ts (true, .mk thr [] ds) := by
  have hl := h.len
  refine ⟨fun h0 => absurd h0 (diff_ne h h1), fun _ => ⟨rfl, ⟨?_, ?_, by simp, by omega, by simp, by simp, fun T hT => hw T ((diff_mem h T).1 hT)⟩, ds, fun h0 => by rw [h0] at h1; simp at h1, diff_mem h, fun p => ?_⟩⟩
  · rw [ht]
    cases all
    · show (1 : Int) ≤ 1; omega
    · show (1 : Int) ≤ (ds.length : Int); omega
  · rw [ht]
    cases all
    · show (1 : Int) ≤ ((0 + ds.length : Nat) : Int); omega
    · show (ds.length : Int) ≤ ((0 + ds.length : Nat) : Int); omega
  · rw [ht]
    cases all
    · exact holds_any ds
    · exact holds_all ds

/-- Lists of trusts. -/
def LLAt (P : Nat → Prop) (W : World) (v : Value) (tss : List (List Tree)) : Prop :=
  ∃ A c, v = .slice A tss.length c ∧ ∀ k ts, tss[k]? = some ts → ∃ b off u, A = some ⟨b, off, none⟩ ∧ P b ∧ W.cell? ⟨b, off + k, none⟩ = some u ∧ ListT P 2 W u ts

theorem LLAt.keep {P : Nat → Prop} {W W' : World} {v : Value} {tss : List (List Tree)} (h : LLAt P W v tss) (hk : ∀ k, k < W.heap.size → P k → W'.heap[k]? = W.heap[k]?) : LLAt P W' v tss := by
  obtain ⟨A, c, h1, h2⟩ := h
  refine ⟨A, c, h1, fun k ts ht => ?_⟩
  obtain ⟨b, off, u, e1, e2, e3, e4⟩ := h2 k ts ht
  exact ⟨b, off, u, e1, e2, (World.cell?_of_block (a := ⟨b, off + k, none⟩) (hk b (cell_lt e3) e2)).trans e3, e4.both hk (fun _ _ h => h)⟩

/-- The first k members are joined. -/
def JoinL (all : Bool) (n : Int) (tss : List (List Tree)) (k : Nat) (ms : List Mem) : Prop := ms.length = k ∧ ∀ (i : Nat) (ts : List Tree) (m : Mem), tss[i]? = some ts → ms[i]? = some m → JoinT all n ts m

theorem JoinL.zero (all : Bool) (n : Int) (tss : List (List Tree)) : JoinL all n tss 0 [] := ⟨rfl, fun i ts m _ h => by cases h⟩

theorem JoinL.succ {all : Bool} {n : Int} {tss : List (List Tree)} {k : Nat} {ms : List Mem} {ts : List Tree} {m : Mem} (h : JoinL all n tss k ms) (ht : tss[k]? = some ts) (hm : JoinT all n ts m) : JoinL all n tss (k + 1) (ms ++ [m]) := by
  refine ⟨by rw [List.length_append, h.1]; rfl, fun i us x hu hx => ?_⟩
  rcases Nat.lt_or_ge i ms.length with h1 | h1
  · rw [List.getElem?_append_left h1] at hx
    exact h.2 i us x hu hx
  · have h2 := (List.getElem?_eq_some_iff.1 hx).1
    rw [List.length_append] at h2
    obtain rfl : i = k := by have := h.1; simp at h2; omega
    rw [ht] at hu
    obtain rfl := Option.some.inj hu
    rw [List.getElem?_append_right h1, h.1, Nat.sub_self] at hx
    have hx' : m = x := by simpa using hx
    rw [← hx']; exact hm

theorem JoinL.ok {all : Bool} {n : Nat} {tss : List (List Tree)} {ms : List Mem} (h : JoinL all (n : Int) tss n ms) (hn : tss.length = n) : D3.MemsOk ms.length ms := by
  intro x hx
  obtain ⟨k, hk, rfl⟩ := List.getElem_of_mem hx
  have hk2 : k < tss.length := by have := h.1; omega
  have hj := h.2 k _ _ (List.getElem?_eq_getElem hk2) (List.getElem?_eq_getElem hk)
  rw [h.1]
  by_cases h0 : tss[k] = []
  · have := hj.1 h0
    rw [this]
    exact ⟨fun h => (by cases h), fun _ => rfl⟩
  · have := hj.2 h0
    exact ⟨fun _ => this.2.1, fun h => by rw [this.1] at h; cases h⟩

end Go.Proofs.Ytnfdacfhhkahhaa

namespace Go.Proofs.Ytnfdacfhhkahhaa
set_option linter.unusedVariables false
set_option linter.unusedSimpArgs false
open Go.RowKit

theorem set4_far {W : World} {r q : Nat} (u0 u1 u2 u3 : Value) (h : q ≠ r) : ((((W.setCell ⟨r, 0, none⟩ u0).setCell ⟨r, 1, none⟩ u1).setCell ⟨r, 2, none⟩ u2).setCell ⟨r, 3, none⟩ u3).heap[q]? = W.heap[q]? :=
  (Below.heap_setCell _ _ _ q h).trans ((Below.heap_setCell _ _ _ q h).trans ((Below.heap_setCell _ _ _ q h).trans (Below.heap_setCell _ _ _ q h)))

theorem set4_row {W : World} {r : Nat} {a0 a1 a2 a3 : Value} {t : TypeId} (u0 u1 u2 u3 : Value) (h : W.heap[r]? = some (.cells #[a0, a1, a2, a3] t (0, 0))) : ((((W.setCell ⟨r, 0, none⟩ u0).setCell ⟨r, 1, none⟩ u1).setCell ⟨r, 2, none⟩ u2).setCell ⟨r, 3, none⟩ u3).heap[r]? = some (.cells #[u0, u1, u2, u3] t (0, 0)) := by
  simp [World.setCell, Array.getElem?_modify, h]

theorem set1_row {W : World} {r : Nat} {a0 a1 a2 a3 : Value} {t : TypeId} (u : Value) (h : W.heap[r]? = some (.cells #[a0, a1, a2, a3] t (0, 0))) : (W.setCell ⟨r, 1, none⟩ u).heap[r]? = some (.cells #[a0, u, a2, a3] t (0, 0)) := by
  simp [World.setCell, Array.getElem?_modify, h]

theorem set4_grown {A W : World} {r : Nat} (u0 u1 u2 u3 : Value) (sb : Nat) (h : A.grownBy W (some sb)) (hr : A.heap.size ≤ r) : A.grownBy ((((W.setCell ⟨r, 0, none⟩ u0).setCell ⟨r, 1, none⟩ u1).setCell ⟨r, 2, none⟩ u2).setCell ⟨r, 3, none⟩ u3) (some sb) :=
  gset (gset (gset (gset h (p := ⟨r, 0, none⟩) hr u0) (p := ⟨r, 1, none⟩) hr u1) (p := ⟨r, 2, none⟩) hr u2) (p := ⟨r, 3, none⟩) hr u3

theorem joinQ {P : Nat → Prop} {g r x : Nat} {v : Value} {b : Nat} (hv : ∀ q, v.ownBlock = some q → g + 2 ≤ q ∧ q < x) (hx : g + 2 ≤ x) (h : ((P b ∧ b < g) ∨ x ≤ b) ∧ b < r) : (((P b ∧ b < g) ∨ g + 2 ≤ b) ∧ v.ownBlock ≠ some b) ∧ b ≠ r := by
  refine ⟨⟨?_, fun e => ?_⟩, by have := h.2; omega⟩
  · rcases h.1 with h1 | h1
    · exact .inl h1
    · exact .inr (by omega)
  · have := hv b e
    rcases h.1 with h1 | h1 <;> omega

set_option maxRecDepth 100000 in
set_option maxHeartbeats 16000000 in
theorem joined_run (P : Nat → Prop) (tss : List (List Tree)) (all : Bool) (n : Nat) (v0 : Value) (w : World) (hn : tss.length = n) (hn10 : n ≤ 10) (h3 : ∀ ts ∈ tss, ts.length ≤ 3) (hwf : ∀ ts ∈ tss, ∀ T ∈ ts, WF n 2 T) (h : LLAt P w v0 tss) :
    Calls Try.prog 64 #[v0, .bool all] w fun e w' => ∃ v' ms, e = .returned (.tuple #[.agg #[v'], .int .i64 0]) ∧ MemsAt (fun b => P b ∨ w.heap.size ≤ b) 3 w' v' ms ∧ JoinL all n tss n ms ∧ Below w.heap.size w w' := by
  obtain ⟨A, c, rfl, hL⟩ := h
  obtain ⟨i4, hi4, hy0, hy1, hy2⟩ := info_parts infoMember
  have hb2 : Below w.heap.size w ((w.alloc (.cells #[.slice none 0 0] 27)).alloc (.cells #[.slice none 0 0] 27)) := balloc (balloc (bref w) _) _
  have k0 : ((w.alloc (.cells #[.slice none 0 0] 27)).alloc (.cells #[.slice none 0 0] 27)).heap[w.heap.size]? = some (.cells #[.slice none 0 0] 27 (0, 0)) := alloc_on (alloc_at rfl)
  have k1 : ((w.alloc (.cells #[.slice none 0 0] 27)).alloc (.cells #[.slice none 0 0] 27)).heap[w.heap.size + 1]? = some (.cells #[.slice none 0 0] 27 (0, 0)) := alloc_at (alloc_sz _ _)
  have hsz : ((w.alloc (.cells #[.slice none 0 0] 27)).alloc (.cells #[.slice none 0 0] 27)).heap.size = w.heap.size + 2 := by rw [alloc_sz, alloc_sz]
  have H := Lib.hid (fun k ts (ht : tss[k]? = some ts) => (by
    obtain ⟨b, off, u, e1, _, e3, e4⟩ := hL k ts ht
    exact ⟨b, off, u, e1, cell_lt e3, (hb2.cell (cell_lt e3)).trans e3, (e4.both (Q := fun b => P b ∧ b < w.heap.size) (fun _ _ _ => rfl) (fun k hk hp => ⟨hp, hk⟩)).below hb2⟩ : ∃ b off u, A = some ⟨b, off, none⟩ ∧ b < w.heap.size ∧ ((w.alloc (.cells #[.slice none 0 0] 27)).alloc (.cells #[.slice none 0 0] 27)).cell? ⟨b, off + k, none⟩ = some u ∧ ListT (fun b => P b ∧ b < w.heap.size) 2 ((w.alloc (.cells #[.slice none 0 0] 27)).alloc (.cells #[.slice none 0 0] 27)) u ts))
  have HB := Lib.hid hb2
  have K0 := Lib.hid k0
  have K1 := Lib.hid k1
  have H3 := Lib.hid h3
  have HWF := Lib.hid hwf
  have HN := Lib.hid hn
  rw [hn]
  clear hL hb2 k0 k1 h3 hwf hn
  go_enter Try.func64, Try.ntmps64
  go_upto_region 4 with fail
  generalize ((w.alloc (.cells #[.slice none 0 0] 27)).alloc (.cells #[.slice none 0 0] 27)) = W1 at *
  generalize hg : w.heap.size = g at *
  have HG := Lib.hid hg
  clear hg
  go_wp2_with fail
  go_loopw [21] (fun t W => ∃ (k : Nat) (v : Value) (ms : List Mem), k ≤ n ∧ t = .int .i64 k ∧ Hid (GRow (fun b => (P b ∧ b < g) ∨ g + 2 ≤ b) (g + 2) 3 W v ms) ∧ Hid (W.heap[g + 1]? = some (.cells #[v] 27 (0, 0))) ∧ Hid (JoinL all n tss k ms) ∧ Hid (W1.grownBy W (some (g + 1)))) (fun t _ => n - (intOf t).toNat)
  case atStart => exact ⟨0, .slice none 0 0, [], by omega, rfl, Lib.hid (GRow.nil _ _ _ _), K1, Lib.hid (JoinL.zero _ _ _), Lib.hid (World.grownBy.refl _ _)⟩
  case round =>
    obtain ⟨k, v, ms, hk, rfl, hRow, hOut, HJ, hGr⟩ := hrel
    have hwr := hGr.out.size
    by_cases hlt : k < n
    · obtain ⟨ts, hts⟩ : ∃ ts, tss[k]? = some ts := ⟨_, List.getElem?_eq_getElem (by rw [HN.out]; exact hlt)⟩
      obtain ⟨b, off, u, rfl, hbg, e0, hLu⟩ := H.out k ts hts
      have d0 := (World.cell?_of_block (a := ⟨b, off + k, none⟩) (hGr.out.block b (cell_lt e0) (by simp; omega))).trans e0
      have HLU := Lib.hid (hLu.both (w' := wr) (Q := fun b => P b ∧ b < g) (fun q hq hP => hGr.out.block q hq (by have := hP.2; simp; omega)) (fun _ _ h => h))
      have HTS := Lib.hid hts
      have hm3 := H3.out ts (List.mem_of_getElem? hts)
      have HWU := Lib.hid (HWF.out ts (List.mem_of_getElem? hts))
      obtain ⟨Au, cu, rfl⟩ := hLu.slice
      obtain ⟨nt, hnt⟩ : ∃ nt, ts.length = nt := ⟨_, rfl⟩
      have HNT := Lib.hid hnt
      rw [hnt] at hm3 HLU d0
      have HRW0 := hRow
      have HOW0 := hOut
      have HGR0 := hGr
      have HROX := Lib.hid (fun q (hq : v.ownBlock = some q) => (hRow.out.own q hq))
      clear hLu e0 hts hnt hRow hOut hGr
      obtain ⟨wo, rfl⟩ : ∃ wo : World, wo = wr := ⟨_, rfl⟩
      go_wp2_with fail
      clear d0
      go_loopw [27] (fun t W => ∃ j : Nat, j ≤ nt ∧ t = .int .i64 j ∧ Hid (Below wo.heap.size wo W)) (fun t _ => nt - (intOf t).toNat)
      case atStart => exact ⟨0, Nat.zero_le _, rfl, Lib.hid (bref _)⟩
      case round =>
        obtain ⟨j, hj, rfl, hBe⟩ := hrel
        have HLj := Lib.hid (HLU.out.below hBe.out)
        by_cases hlt2 : j < nt
        · obtain ⟨T, hT⟩ : ∃ T, ts[j]? = some T := ⟨_, List.getElem?_eq_getElem (by rw [HNT.out]; exact hlt2)⟩
          obtain ⟨Bn, cn, hBn, hLc⟩ := HLj.out
          injection hBn with q1 q2 q3
          subst q1
          obtain ⟨b', off', x0, x1, x2, rfl, _, f0, f1, f2, hTk⟩ := hLc j T hT
          obtain ⟨t', A', n', ca, B', m', cb, rfl, rfl, rfl⟩ := hTk.form
          have HTV := Lib.hid (hTk.below (balloc (bref wr) (.cells #[.int .i64 t', .slice A' n' ca, .slice B' m' cb] 32)))
          have HWT := Lib.hid (HWU.out T (List.mem_of_getElem? hT))
          have HB2 := Lib.hid (balloc hBe.out (.cells #[.int .i64 t', .slice A' n' ca, .slice B' m' cb] 32))
          clear hTk hLc hT q2 q3
          go_wp2_with fail
          refine (rtvalid_run _ n (by omega) 2 (by omega) T _ _ _ _ HTV.out HWT.out (sizeT2_le HWT.out)).mono ?_
          rintro e w5 ⟨rfl, hb5⟩
          have HB5 := Lib.hid (bstep HB2.out hb5)
          clear hb5
          go_wp2_with fail
          go_roundw
          case rel => exact ⟨j + 1, hlt2, by go_num, HB5⟩
          case measure => simp [intOf]; omega
        · obtain rfl : j = nt := by omega
          obtain ⟨wa, rfl⟩ : ∃ wa : World, wa = wr := ⟨_, rfl⟩
          go_wp2_with fail
          refine (different_run (fun b => P b ∧ b < g) ts _ _ (by rw [HNT.out]; exact hm3) (by exact HLj.out)).mono ?_
          rintro e Wb ⟨v12, ds, rfl, hLd, hDf, hbb⟩
          have HDF := Lib.hid hDf
          have hdl := hDf.len
          rw [HNT.out] at hdl
          have HBB := Lib.hid (bstep hBe.out hbb)
          have hLd' := hLd.both (w' := Wb) (Q := fun b => ((P b ∧ b < g) ∨ wo.heap.size ≤ b) ∧ b < Wb.heap.size) (fun _ _ _ => rfl) (fun b hb h => ⟨h.imp id (fun h2 => Nat.le_trans hBe.out.size h2), hb⟩)
          obtain ⟨Ad, cd, rfl⟩ := hLd'.slice
          obtain ⟨nd, hnd⟩ : ∃ nd, ds.length = nd := ⟨_, rfl⟩
          have HND := Lib.hid hnd
          rw [hnd] at hdl hLd'
          have HLD := Lib.hid hLd'
          rw [hnd]
          clear hLd hDf hbb hLd' hnd
          have HZA := Lib.hid (balloc HBB.out (.cells #[.bool false, .int .i64 0, .slice none 0 0, .slice none 0 0] 34))
          have HZK := Lib.hid (show (Wb.alloc (.cells #[.bool false, .int .i64 0, .slice none 0 0, .slice none 0 0] 34)).heap[Wb.heap.size]? = some (.cells #[.bool false, .int .i64 0, .slice none 0 0, .slice none 0 0] 34 (0, 0)) from alloc_at rfl)
          have HZL := Lib.hid (HLD.out.below (balloc (bref Wb) (.cells #[.bool false, .int .i64 0, .slice none 0 0, .slice none 0 0] 34)))
          have HZS := Lib.hid (show g + 2 ≤ Wb.heap.size ∧ wo.heap.size ≤ Wb.heap.size by have := HBB.out.size; omega)
          go_upto_region 18 with fail
          generalize (Wb.alloc (.cells #[.bool false, .int .i64 0, .slice none 0 0, .slice none 0 0] 34)) = W3 at *
          generalize Wb.heap.size = r at *
          have HRQ := Lib.hid HZS.out.1
          have hro := HZS.out.2
          have hrl : r < W3.heap.size := (Array.getElem?_eq_some_iff.1 HZK.out).1
          have HGX := Lib.hid (grown_trans HGR0.out (grown_below HZA.out))
          have hw1r : W1.heap.size ≤ r := Nat.le_trans hwr hro
          have HNOB := Lib.hid (fun q (hq : v.ownBlock = some q) => (show g + 2 ≤ q ∧ q < wo.heap.size from HROX.out q hq))
          by_cases hd0 : nd = 0
          · subst hd0
            have HMJ := Lib.hid (join_nil (all := all) (n := (n : Int)) HDF.out HND.out)
            have K6 := HZK
            have HT6 := Lib.hid (TAt.empty (fun b => ((P b ∧ b < g) ∨ g + 2 ≤ b) ∧ v.ownBlock ≠ some b) 2 W3 none none 0 0)
            have HG6 := HGX
            have L6 := Lib.hid (fun q (hq : q < wo.heap.size) => HZA.out.block q hq)
            go_upto_region 24 with fail
            generalize W3 = W6 at *
            have x0 : W6.cell? ⟨r, 0, none⟩ = some (.bool false) := cell_of_row _ _ 0 _ _ (0, 0) K6.out
            have x1 : W6.cell? ⟨r, 1, none⟩ = some (.int .i64 0) := cell_of_row _ _ 1 _ _ (0, 0) K6.out
            have x2 : W6.cell? ⟨r, 2, none⟩ = some (.slice none 0 0) := cell_of_row _ _ 2 _ _ (0, 0) K6.out
            have x3 : W6.cell? ⟨r, 3, none⟩ = some (.slice none 0 0) := cell_of_row _ _ 3 _ _ (0, 0) K6.out
            have hcb6 : W6.heap[g + 1]? = some (.cells #[v] 27 (0, 0)) := (L6.out (g + 1) (by omega)).trans HOW0.out
            have q2 : W6.cell? ⟨g + 1, 0, none⟩ = some v := cell_of_row _ _ 0 _ _ (0, 0) hcb6
            have HCB6 := Lib.hid hcb6
            obtain ⟨cs, hcs, hcl⟩ := HRW0.out.keep (W' := W6) (fun q _ hq => L6.out q hq)
            have hcn := hcs.1
            have HCSA := Lib.hid (hcs.alloc (.cells #[.bool false, .int .i64 0, .slice none 0 0, .slice none 0 0] 34))
            have HNEW := Lib.hid (cell_four_new W6 (.bool false) (.int .i64 0) (.slice none 0 0) (.slice none 0 0) 34)
            have HBA4 := Lib.hid (balloc (bref W6) (.cells #[.bool false, .int .i64 0, .slice none 0 0, .slice none 0 0] 34))
            have HSZ4 := Lib.hid (alloc_sz W6 (.cells #[.bool false, .int .i64 0, .slice none 0 0, .slice none 0 0] 34))
            have HCL := Lib.hid hcl
            have hz6 : r < W6.heap.size := cell_lt x0
            have hgr : g + 2 ≤ r := HRQ.out
            have HMK := Lib.hid (HJ.out.succ HTS.out HMJ.out)
            have HML := Lib.hid HJ.out.1
            clear hcs hcl hcb6
            go_wp2_with (at_builtin; refine wpList_append_lies _ rfl _ _ 25 rfl (g + 2) 34 i4 (.agg #[.bool false, .int .i64 0, .slice none 0 0, .slice none 0 0]) 4 64 Try.underlying25 hi4 hy0 hy1 hy2 rfl (by decide) _ ms.length cs rfl (by exact HCSA.out) ⟨_, 0, none⟩ 1 1 [.bool false, .int .i64 0, .slice none 0 0, .slice none 0 0] rfl rfl (by exact HNEW.out) (by intro u hu; simp at hu; rcases hu with rfl | rfl | rfl | rfl <;> rfl) (by omega) (by have := HML.out; unfold maxLen; omega) (by have := HML.out; omega) (by have := HSZ4.out; omega) _ rfl ?_; intro g4 cap4 W7 hown4 hgrow4 hat4 hlt4; have hcb5 : W7.heap[g + 1]? = some (.cells #[v] 27 (0, 0)) := (hgrow4.block (g + 1) (by have := HSZ4.out; omega) (fun e => by have := (HROX.out _ e.symm).1; omega)).trans ((HBA4.out.block (g + 1) (by omega)).trans HCB6.out); have s0 : W7.cell? ⟨g + 1, 0, none⟩ = some v := cell_of_row _ _ 0 _ _ (0, 0) hcb5; have sf : W7.frozen? ⟨g + 1, 0, none⟩ = false := by simp [World.frozen?, hcb5])
            have hgB : (W6.alloc (.cells #[.bool false, .int .i64 0, .slice none 0 0, .slice none 0 0] 34)).grownBy W7 v.ownBlock := ⟨hgrow4.os, hgrow4.tape, hgrow4.output, hgrow4.size, hgrow4.block⟩
            have hrow5 := GRow.append (Q := fun b => (P b ∧ b < g) ∨ g + 2 ≤ b) (m := (false, .mk 0 [] [])) (WA := W6.alloc (.cells #[.bool false, .int .i64 0, .slice none 0 0, .slice none 0 0] 34)) (fun k m hm => by
                obtain ⟨z0, z1, z2, e0, e1, e2, e3, e4⟩ := HCL.out k m hm
                exact ⟨z0, z1, z2, e0, e1, e2, e3, e4.below HBA4.out⟩) hcn (HT6.out.below HBA4.out) hown4 hgB hat4
            have HROW5 := Lib.hid (hrow5.keep (W' := W7.setCell ⟨g + 1, 0, none⟩ (.slice (some ⟨g4, 0, none⟩) (ms.length + 1) cap4)) (fun q hq _ => Below.heap_setCell _ _ _ _ (by show q ≠ g + 1; rcases hq with (hq | hq) | hq <;> omega)))
            have hset5 : (W7.setCell ⟨g + 1, 0, none⟩ (.slice (some ⟨g4, 0, none⟩) (ms.length + 1) cap4)).heap[g + 1]? = some (.cells #[.slice (some ⟨g4, 0, none⟩) (ms.length + 1) cap4] 27 (0, 0)) := by
              simp [World.setCell, Array.getElem?_modify, hcb5]
            have HSET5 := Lib.hid hset5
            have HGR5 := Lib.hid (grown_at (gown (grown_trans HG6.out (grown_below HBA4.out)) hgB (fun q hq => by have := (HROX.out q hq).1; omega)) 0 (.slice (some ⟨g4, 0, none⟩) (ms.length + 1) cap4))
            clear hown4 hgrow4 hat4 hlt4 hcb5 s0 sf hgB hrow5 hset5
            go_roundw
            case rel => exact ⟨k + 1, _, _, by omega, by go_num, HROW5, HSET5, HMK, HGR5⟩
            case measure => simp [intOf]; omega
          · by_cases hd1 : nd = 1
            · subst hd1
              obtain ⟨d, hd⟩ : ∃ d, ds[0]? = some d := ⟨_, List.getElem?_eq_getElem (by rw [HND.out]; omega)⟩
              have HMJ := Lib.hid (join_one (all := all) (n := (n : Int)) HDF.out HWU.out HND.out hd)
              obtain ⟨Bn, cn, hBn, hLc⟩ := HZL.out
              injection hBn with q1 q2 q3
              subst q1
              obtain ⟨b', off', x0, x1, x2, rfl, hP', f0, f1, f2, hTk⟩ := hLc 0 d hd
              obtain ⟨t', A', n', ca, B', m', cb, rfl, rfl, rfl⟩ := hTk.form
              rw [Nat.zero_mul, Nat.add_zero] at f0 f1 f2
              have z0 : W3.cell? ⟨r, 0, none⟩ = some (.bool false) := cell_of_row _ _ 0 _ _ (0, 0) HZK.out
              have z1 : W3.cell? ⟨r, 1, none⟩ = some (.int .i64 0) := cell_of_row _ _ 1 _ _ (0, 0) HZK.out
              have z2 : W3.cell? ⟨r, 2, none⟩ = some (.slice none 0 0) := cell_of_row _ _ 2 _ _ (0, 0) HZK.out
              have z3 : W3.cell? ⟨r, 3, none⟩ = some (.slice none 0 0) := cell_of_row _ _ 3 _ _ (0, 0) HZK.out
              have zf : ∀ j, W3.frozen? ⟨r, j, none⟩ = false := fun j => by simp [World.frozen?, HZK.out]
              have zf0 := zf 0
              have zf1 := zf 1
              have zf2 := zf 2
              have zf3 := zf 3
              have hTP := hTk.imp (Q := fun b => (((P b ∧ b < g) ∨ g + 2 ≤ b) ∧ v.ownBlock ≠ some b) ∧ b ≠ r) (fun b hb hP => joinQ HNOB.out (by omega) hP)
              have K6 := Lib.hid (set4_row (.bool true) (.int .i64 t') (.slice A' n' ca) (.slice B' m' cb) HZK.out)
              have L6 := Lib.hid (fun q (hq : q < wo.heap.size) => (set4_far (W := W3) (.bool true) (.int .i64 t') (.slice A' n' ca) (.slice B' m' cb) (by omega : q ≠ r)).trans (HZA.out.block q hq))
              have HT6 := Lib.hid ((TAt.both (w' := ((((W3.setCell ⟨r, 0, none⟩ (.bool true)).setCell ⟨r, 1, none⟩ (.int .i64 t')).setCell ⟨r, 2, none⟩ (.slice A' n' ca)).setCell ⟨r, 3, none⟩ (.slice B' m' cb))) (Q := fun b => ((P b ∧ b < g) ∨ g + 2 ≤ b) ∧ v.ownBlock ≠ some b) (fun q hq hP => set4_far _ _ _ _ hP.2) (fun q _ h => h.1) _ _ _ _ _ hTP).up)
              have HG6 := Lib.hid (set4_grown (.bool true) (.int .i64 t') (.slice A' n' ca) (.slice B' m' cb) (g + 1) HGX.out hw1r)
              clear hTk hLc hTP hd q2 q3 zf
              go_upto_region 24 with fail
              clear z0 z1 z2 z3 zf0 zf1 zf2 zf3 f0 f1 f2
              generalize ((((W3.setCell ⟨r, 0, none⟩ (.bool true)).setCell ⟨r, 1, none⟩ (.int .i64 t')).setCell ⟨r, 2, none⟩ (.slice A' n' ca)).setCell ⟨r, 3, none⟩ (.slice B' m' cb)) = W6 at *
              have x0 : W6.cell? ⟨r, 0, none⟩ = some (.bool true) := cell_of_row _ _ 0 _ _ (0, 0) K6.out
              have x1 : W6.cell? ⟨r, 1, none⟩ = some (.int .i64 t') := cell_of_row _ _ 1 _ _ (0, 0) K6.out
              have x2 : W6.cell? ⟨r, 2, none⟩ = some ((.slice A' n' ca)) := cell_of_row _ _ 2 _ _ (0, 0) K6.out
              have x3 : W6.cell? ⟨r, 3, none⟩ = some ((.slice B' m' cb)) := cell_of_row _ _ 3 _ _ (0, 0) K6.out
              have hcb6 : W6.heap[g + 1]? = some (.cells #[v] 27 (0, 0)) := (L6.out (g + 1) (by omega)).trans HOW0.out
              have q2 : W6.cell? ⟨g + 1, 0, none⟩ = some v := cell_of_row _ _ 0 _ _ (0, 0) hcb6
              have HCB6 := Lib.hid hcb6
              obtain ⟨cs, hcs, hcl⟩ := HRW0.out.keep (W' := W6) (fun q _ hq => L6.out q hq)
              have hcn := hcs.1
              have HCSA := Lib.hid (hcs.alloc (.cells #[.bool true, .int .i64 t', (.slice A' n' ca), (.slice B' m' cb)] 34))
              have HNEW := Lib.hid (cell_four_new W6 (.bool true) (.int .i64 t') ((.slice A' n' ca)) ((.slice B' m' cb)) 34)
              have HBA4 := Lib.hid (balloc (bref W6) (.cells #[.bool true, .int .i64 t', (.slice A' n' ca), (.slice B' m' cb)] 34))
              have HSZ4 := Lib.hid (alloc_sz W6 (.cells #[.bool true, .int .i64 t', (.slice A' n' ca), (.slice B' m' cb)] 34))
              have HCL := Lib.hid hcl
              have hz6 : r < W6.heap.size := cell_lt x0
              have hgr : g + 2 ≤ r := HRQ.out
              have HMK := Lib.hid (HJ.out.succ HTS.out HMJ.out)
              have HML := Lib.hid HJ.out.1
              clear hcs hcl hcb6
              go_wp2_with (at_builtin; refine wpList_append_lies _ rfl _ _ 25 rfl (g + 2) 34 i4 (.agg #[.bool false, .int .i64 0, .slice none 0 0, .slice none 0 0]) 4 64 Try.underlying25 hi4 hy0 hy1 hy2 rfl (by decide) _ ms.length cs rfl (by exact HCSA.out) ⟨_, 0, none⟩ 1 1 [.bool true, .int .i64 t', (.slice A' n' ca), (.slice B' m' cb)] rfl rfl (by exact HNEW.out) (by intro u hu; simp at hu; rcases hu with rfl | rfl | rfl | rfl <;> rfl) (by omega) (by have := HML.out; unfold maxLen; omega) (by have := HML.out; omega) (by have := HSZ4.out; omega) _ rfl ?_; intro g4 cap4 W7 hown4 hgrow4 hat4 hlt4; have hcb5 : W7.heap[g + 1]? = some (.cells #[v] 27 (0, 0)) := (hgrow4.block (g + 1) (by have := HSZ4.out; omega) (fun e => by have := (HROX.out _ e.symm).1; omega)).trans ((HBA4.out.block (g + 1) (by omega)).trans HCB6.out); have s0 : W7.cell? ⟨g + 1, 0, none⟩ = some v := cell_of_row _ _ 0 _ _ (0, 0) hcb5; have sf : W7.frozen? ⟨g + 1, 0, none⟩ = false := by simp [World.frozen?, hcb5])
              have hgB : (W6.alloc (.cells #[.bool true, .int .i64 t', (.slice A' n' ca), (.slice B' m' cb)] 34)).grownBy W7 v.ownBlock := ⟨hgrow4.os, hgrow4.tape, hgrow4.output, hgrow4.size, hgrow4.block⟩
              have hrow5 := GRow.append (Q := fun b => (P b ∧ b < g) ∨ g + 2 ≤ b) (m := (true, d)) (WA := W6.alloc (.cells #[.bool true, .int .i64 t', (.slice A' n' ca), (.slice B' m' cb)] 34)) (fun k m hm => by
                  obtain ⟨z0, z1, z2, e0, e1, e2, e3, e4⟩ := HCL.out k m hm
                  exact ⟨z0, z1, z2, e0, e1, e2, e3, e4.below HBA4.out⟩) hcn (HT6.out.below HBA4.out) hown4 hgB hat4
              have HROW5 := Lib.hid (hrow5.keep (W' := W7.setCell ⟨g + 1, 0, none⟩ (.slice (some ⟨g4, 0, none⟩) (ms.length + 1) cap4)) (fun q hq _ => Below.heap_setCell _ _ _ _ (by show q ≠ g + 1; rcases hq with (hq | hq) | hq <;> omega)))
              have hset5 : (W7.setCell ⟨g + 1, 0, none⟩ (.slice (some ⟨g4, 0, none⟩) (ms.length + 1) cap4)).heap[g + 1]? = some (.cells #[.slice (some ⟨g4, 0, none⟩) (ms.length + 1) cap4] 27 (0, 0)) := by
                simp [World.setCell, Array.getElem?_modify, hcb5]
              have HSET5 := Lib.hid hset5
              have HGR5 := Lib.hid (grown_at (gown (grown_trans HG6.out (grown_below HBA4.out)) hgB (fun q hq => by have := (HROX.out q hq).1; omega)) 0 (.slice (some ⟨g4, 0, none⟩) (ms.length + 1) cap4))
              clear hown4 hgrow4 hat4 hlt4 hcb5 s0 sf hgB hrow5 hset5
              go_roundw
              case rel => exact ⟨k + 1, _, _, by omega, by go_num, HROW5, HSET5, HMK, HGR5⟩
              case measure => simp [intOf]; omega
            · have z0 : W3.cell? ⟨r, 0, none⟩ = some (.bool false) := cell_of_row _ _ 0 _ _ (0, 0) HZK.out
              have z1 : W3.cell? ⟨r, 1, none⟩ = some (.int .i64 0) := cell_of_row _ _ 1 _ _ (0, 0) HZK.out
              have z2 : W3.cell? ⟨r, 2, none⟩ = some (.slice none 0 0) := cell_of_row _ _ 2 _ _ (0, 0) HZK.out
              have z3 : W3.cell? ⟨r, 3, none⟩ = some (.slice none 0 0) := cell_of_row _ _ 3 _ _ (0, 0) HZK.out
              have zf : ∀ j, W3.frozen? ⟨r, j, none⟩ = false := fun j => by simp [World.frozen?, HZK.out]
              have zf0 := zf 0
              have zf1 := zf 1
              have zf2 := zf 2
              have zf3 := zf 3
              clear zf
              have q1 : ((nd : Int) == 1) = false := by rw [beq_eq_false_iff_ne]; omega
              cases all
              · have HMJ := Lib.hid (join_more (all := false) (n := (n : Int)) (thr := 1) HDF.out HWU.out (by rw [HNT.out]; exact hm3) (by rw [HND.out]; omega) (by simp [HND.out]))
                have HLP := Lib.hid (HZL.out.both (w' := W3) (Q := fun b => (((P b ∧ b < g) ∨ g + 2 ≤ b) ∧ v.ownBlock ≠ some b) ∧ b ≠ r) (fun _ _ _ => rfl) (fun b hb hP => joinQ HNOB.out (by omega) hP))
                have K6 := Lib.hid (show ((((W3.setCell ⟨r, 0, none⟩ (.bool true)).setCell ⟨r, 1, none⟩ (.int .i64 1)).setCell ⟨r, 2, none⟩ (.slice none 0 0)).setCell ⟨r, 3, none⟩ (.slice Ad nd cd)).heap[r]? = some (.cells #[.bool true, .int .i64 1, .slice none 0 0, .slice Ad nd cd] 34 (0, 0)) by
                  have h := set4_row (.bool true) (.int .i64 1) (.slice none 0 0) (.slice Ad nd cd) HZK.out
                  exact h)
                have FAR := (fun q (hne : q ≠ r) => set4_far _ _ _ _ hne : ∀ q, q ≠ r → ((((W3.setCell ⟨r, 0, none⟩ (.bool true)).setCell ⟨r, 1, none⟩ (.int .i64 1)).setCell ⟨r, 2, none⟩ (.slice none 0 0)).setCell ⟨r, 3, none⟩ (.slice Ad nd cd)).heap[q]? = W3.heap[q]?)
                have L6 := Lib.hid (fun q (hq : q < wo.heap.size) => (FAR q (by omega)).trans (HZA.out.block q hq))
                have HT6 := Lib.hid (show TAt (fun b => ((P b ∧ b < g) ∨ g + 2 ≤ b) ∧ v.ownBlock ≠ some b) 3 ((((W3.setCell ⟨r, 0, none⟩ (.bool true)).setCell ⟨r, 1, none⟩ (.int .i64 1)).setCell ⟨r, 2, none⟩ (.slice none 0 0)).setCell ⟨r, 3, none⟩ (.slice Ad nd cd)) (.int .i64 1) (.slice none 0 0) (.slice Ad nd cd) (.mk 1 [] ds) from
                  TAt.of_parts (by simp) (by rw [HND.out]; omega) ⟨none, 0, rfl, fun k hk => by simp at hk⟩ (HLP.out.both (fun q hq hP => FAR q hP.2) (fun _ _ h => h.1)))
                have HG6 := Lib.hid (set4_grown (.bool true) (.int .i64 1) (.slice none 0 0) (.slice Ad nd cd) (g + 1) HGX.out hw1r)
                clear FAR
                go_upto_region 22 with fail
                clear z0 z1 z2 z3 zf0 zf1 zf2 zf3
                have K5 := Lib.hid (set4_row (.bool true) (.int .i64 1) (.slice none 0 0) (.slice Ad nd cd) HZK.out)
                generalize ((((W3.setCell ⟨r, 0, none⟩ (.bool true)).setCell ⟨r, 1, none⟩ (.int .i64 1)).setCell ⟨r, 2, none⟩ (.slice none 0 0)).setCell ⟨r, 3, none⟩ (.slice Ad nd cd)) = W5 at *
                skip
                go_upto_region 24 with fail
                generalize W5 = W6 at *
                have x0 : W6.cell? ⟨r, 0, none⟩ = some (.bool true) := cell_of_row _ _ 0 _ _ (0, 0) K6.out
                have x1 : W6.cell? ⟨r, 1, none⟩ = some (.int .i64 1) := cell_of_row _ _ 1 _ _ (0, 0) K6.out
                have x2 : W6.cell? ⟨r, 2, none⟩ = some ((.slice none 0 0)) := cell_of_row _ _ 2 _ _ (0, 0) K6.out
                have x3 : W6.cell? ⟨r, 3, none⟩ = some ((.slice Ad nd cd)) := cell_of_row _ _ 3 _ _ (0, 0) K6.out
                have hcb6 : W6.heap[g + 1]? = some (.cells #[v] 27 (0, 0)) := (L6.out (g + 1) (by omega)).trans HOW0.out
                have q2 : W6.cell? ⟨g + 1, 0, none⟩ = some v := cell_of_row _ _ 0 _ _ (0, 0) hcb6
                have HCB6 := Lib.hid hcb6
                obtain ⟨cs, hcs, hcl⟩ := HRW0.out.keep (W' := W6) (fun q _ hq => L6.out q hq)
                have hcn := hcs.1
                have HCSA := Lib.hid (hcs.alloc (.cells #[.bool true, .int .i64 1, (.slice none 0 0), (.slice Ad nd cd)] 34))
                have HNEW := Lib.hid (cell_four_new W6 (.bool true) (.int .i64 1) ((.slice none 0 0)) ((.slice Ad nd cd)) 34)
                have HBA4 := Lib.hid (balloc (bref W6) (.cells #[.bool true, .int .i64 1, (.slice none 0 0), (.slice Ad nd cd)] 34))
                have HSZ4 := Lib.hid (alloc_sz W6 (.cells #[.bool true, .int .i64 1, (.slice none 0 0), (.slice Ad nd cd)] 34))
                have HCL := Lib.hid hcl
                have hz6 : r < W6.heap.size := cell_lt x0
                have hgr : g + 2 ≤ r := HRQ.out
                have HMK := Lib.hid (HJ.out.succ HTS.out HMJ.out)
                have HML := Lib.hid HJ.out.1
                clear hcs hcl hcb6
                go_wp2_with (at_builtin; refine wpList_append_lies _ rfl _ _ 25 rfl (g + 2) 34 i4 (.agg #[.bool false, .int .i64 0, .slice none 0 0, .slice none 0 0]) 4 64 Try.underlying25 hi4 hy0 hy1 hy2 rfl (by decide) _ ms.length cs rfl (by exact HCSA.out) ⟨_, 0, none⟩ 1 1 [.bool true, .int .i64 1, (.slice none 0 0), (.slice Ad nd cd)] rfl rfl (by exact HNEW.out) (by intro u hu; simp at hu; rcases hu with rfl | rfl | rfl | rfl <;> rfl) (by omega) (by have := HML.out; unfold maxLen; omega) (by have := HML.out; omega) (by have := HSZ4.out; omega) _ rfl ?_; intro g4 cap4 W7 hown4 hgrow4 hat4 hlt4; have hcb5 : W7.heap[g + 1]? = some (.cells #[v] 27 (0, 0)) := (hgrow4.block (g + 1) (by have := HSZ4.out; omega) (fun e => by have := (HROX.out _ e.symm).1; omega)).trans ((HBA4.out.block (g + 1) (by omega)).trans HCB6.out); have s0 : W7.cell? ⟨g + 1, 0, none⟩ = some v := cell_of_row _ _ 0 _ _ (0, 0) hcb5; have sf : W7.frozen? ⟨g + 1, 0, none⟩ = false := by simp [World.frozen?, hcb5])
                have hgB : (W6.alloc (.cells #[.bool true, .int .i64 1, (.slice none 0 0), (.slice Ad nd cd)] 34)).grownBy W7 v.ownBlock := ⟨hgrow4.os, hgrow4.tape, hgrow4.output, hgrow4.size, hgrow4.block⟩
                have hrow5 := GRow.append (Q := fun b => (P b ∧ b < g) ∨ g + 2 ≤ b) (m := (true, .mk 1 [] ds)) (WA := W6.alloc (.cells #[.bool true, .int .i64 1, (.slice none 0 0), (.slice Ad nd cd)] 34)) (fun k m hm => by
                    obtain ⟨z0, z1, z2, e0, e1, e2, e3, e4⟩ := HCL.out k m hm
                    exact ⟨z0, z1, z2, e0, e1, e2, e3, e4.below HBA4.out⟩) hcn (HT6.out.below HBA4.out) hown4 hgB hat4
                have HROW5 := Lib.hid (hrow5.keep (W' := W7.setCell ⟨g + 1, 0, none⟩ (.slice (some ⟨g4, 0, none⟩) (ms.length + 1) cap4)) (fun q hq _ => Below.heap_setCell _ _ _ _ (by show q ≠ g + 1; rcases hq with (hq | hq) | hq <;> omega)))
                have hset5 : (W7.setCell ⟨g + 1, 0, none⟩ (.slice (some ⟨g4, 0, none⟩) (ms.length + 1) cap4)).heap[g + 1]? = some (.cells #[.slice (some ⟨g4, 0, none⟩) (ms.length + 1) cap4] 27 (0, 0)) := by
                  simp [World.setCell, Array.getElem?_modify, hcb5]
                have HSET5 := Lib.hid hset5
                have HGR5 := Lib.hid (grown_at (gown (grown_trans HG6.out (grown_below HBA4.out)) hgB (fun q hq => by have := (HROX.out q hq).1; omega)) 0 (.slice (some ⟨g4, 0, none⟩) (ms.length + 1) cap4))
                clear hown4 hgrow4 hat4 hlt4 hcb5 s0 sf hgB hrow5 hset5
                go_roundw
                case rel => exact ⟨k + 1, _, _, by omega, by go_num, HROW5, HSET5, HMK, HGR5⟩
                case measure => simp [intOf]; omega
              · have HMJ := Lib.hid (join_more (all := true) (n := (n : Int)) (thr := (nd : Int)) HDF.out HWU.out (by rw [HNT.out]; exact hm3) (by rw [HND.out]; omega) (by simp [HND.out]))
                have HLP := Lib.hid (HZL.out.both (w' := W3) (Q := fun b => (((P b ∧ b < g) ∨ g + 2 ≤ b) ∧ v.ownBlock ≠ some b) ∧ b ≠ r) (fun _ _ _ => rfl) (fun b hb hP => joinQ HNOB.out (by omega) hP))
                have K6 := Lib.hid (show (((((W3.setCell ⟨r, 0, none⟩ (.bool true)).setCell ⟨r, 1, none⟩ (.int .i64 1)).setCell ⟨r, 2, none⟩ (.slice none 0 0)).setCell ⟨r, 3, none⟩ (.slice Ad nd cd)).setCell ⟨r, 1, none⟩ (.int .i64 (nd : Int))).heap[r]? = some (.cells #[.bool true, .int .i64 (nd : Int), .slice none 0 0, .slice Ad nd cd] 34 (0, 0)) by
                  have h := set4_row (.bool true) (.int .i64 1) (.slice none 0 0) (.slice Ad nd cd) HZK.out
                  exact set1_row _ h)
                have FAR := (fun q (hne : q ≠ r) => (Below.heap_setCell _ _ _ q hne).trans (set4_far _ _ _ _ hne) : ∀ q, q ≠ r → (((((W3.setCell ⟨r, 0, none⟩ (.bool true)).setCell ⟨r, 1, none⟩ (.int .i64 1)).setCell ⟨r, 2, none⟩ (.slice none 0 0)).setCell ⟨r, 3, none⟩ (.slice Ad nd cd)).setCell ⟨r, 1, none⟩ (.int .i64 (nd : Int))).heap[q]? = W3.heap[q]?)
                have L6 := Lib.hid (fun q (hq : q < wo.heap.size) => (FAR q (by omega)).trans (HZA.out.block q hq))
                have HT6 := Lib.hid (show TAt (fun b => ((P b ∧ b < g) ∨ g + 2 ≤ b) ∧ v.ownBlock ≠ some b) 3 (((((W3.setCell ⟨r, 0, none⟩ (.bool true)).setCell ⟨r, 1, none⟩ (.int .i64 1)).setCell ⟨r, 2, none⟩ (.slice none 0 0)).setCell ⟨r, 3, none⟩ (.slice Ad nd cd)).setCell ⟨r, 1, none⟩ (.int .i64 (nd : Int))) (.int .i64 (nd : Int)) (.slice none 0 0) (.slice Ad nd cd) (.mk (nd : Int) [] ds) from
                  TAt.of_parts (by simp) (by rw [HND.out]; omega) ⟨none, 0, rfl, fun k hk => by simp at hk⟩ (HLP.out.both (fun q hq hP => FAR q hP.2) (fun _ _ h => h.1)))
                have HG6 := Lib.hid (gset (set4_grown (.bool true) (.int .i64 1) (.slice none 0 0) (.slice Ad nd cd) (g + 1) HGX.out hw1r) (p := ⟨r, 1, none⟩) hw1r (.int .i64 (nd : Int)))
                clear FAR
                go_upto_region 22 with fail
                clear z0 z1 z2 z3 zf0 zf1 zf2 zf3
                have K5 := Lib.hid (set4_row (.bool true) (.int .i64 1) (.slice none 0 0) (.slice Ad nd cd) HZK.out)
                generalize ((((W3.setCell ⟨r, 0, none⟩ (.bool true)).setCell ⟨r, 1, none⟩ (.int .i64 1)).setCell ⟨r, 2, none⟩ (.slice none 0 0)).setCell ⟨r, 3, none⟩ (.slice Ad nd cd)) = W5 at *
                have z1 : W5.cell? ⟨r, 1, none⟩ = some (.int .i64 1) := cell_of_row _ _ 1 _ _ (0, 0) K5.out
                have zf1 : W5.frozen? ⟨r, 1, none⟩ = false := by simp [World.frozen?, K5.out]
                go_upto_region 24 with fail
                clear z1 zf1
                generalize (W5.setCell ⟨r, 1, none⟩ (.int .i64 (nd : Int))) = W6 at *
                have x0 : W6.cell? ⟨r, 0, none⟩ = some (.bool true) := cell_of_row _ _ 0 _ _ (0, 0) K6.out
                have x1 : W6.cell? ⟨r, 1, none⟩ = some (.int .i64 (nd : Int)) := cell_of_row _ _ 1 _ _ (0, 0) K6.out
                have x2 : W6.cell? ⟨r, 2, none⟩ = some ((.slice none 0 0)) := cell_of_row _ _ 2 _ _ (0, 0) K6.out
                have x3 : W6.cell? ⟨r, 3, none⟩ = some ((.slice Ad nd cd)) := cell_of_row _ _ 3 _ _ (0, 0) K6.out
                have hcb6 : W6.heap[g + 1]? = some (.cells #[v] 27 (0, 0)) := (L6.out (g + 1) (by omega)).trans HOW0.out
                have q2 : W6.cell? ⟨g + 1, 0, none⟩ = some v := cell_of_row _ _ 0 _ _ (0, 0) hcb6
                have HCB6 := Lib.hid hcb6
                obtain ⟨cs, hcs, hcl⟩ := HRW0.out.keep (W' := W6) (fun q _ hq => L6.out q hq)
                have hcn := hcs.1
                have HCSA := Lib.hid (hcs.alloc (.cells #[.bool true, .int .i64 (nd : Int), (.slice none 0 0), (.slice Ad nd cd)] 34))
                have HNEW := Lib.hid (cell_four_new W6 (.bool true) (.int .i64 (nd : Int)) ((.slice none 0 0)) ((.slice Ad nd cd)) 34)
                have HBA4 := Lib.hid (balloc (bref W6) (.cells #[.bool true, .int .i64 (nd : Int), (.slice none 0 0), (.slice Ad nd cd)] 34))
                have HSZ4 := Lib.hid (alloc_sz W6 (.cells #[.bool true, .int .i64 (nd : Int), (.slice none 0 0), (.slice Ad nd cd)] 34))
                have HCL := Lib.hid hcl
                have hz6 : r < W6.heap.size := cell_lt x0
                have hgr : g + 2 ≤ r := HRQ.out
                have HMK := Lib.hid (HJ.out.succ HTS.out HMJ.out)
                have HML := Lib.hid HJ.out.1
                clear hcs hcl hcb6
                go_wp2_with (at_builtin; refine wpList_append_lies _ rfl _ _ 25 rfl (g + 2) 34 i4 (.agg #[.bool false, .int .i64 0, .slice none 0 0, .slice none 0 0]) 4 64 Try.underlying25 hi4 hy0 hy1 hy2 rfl (by decide) _ ms.length cs rfl (by exact HCSA.out) ⟨_, 0, none⟩ 1 1 [.bool true, .int .i64 (nd : Int), (.slice none 0 0), (.slice Ad nd cd)] rfl rfl (by exact HNEW.out) (by intro u hu; simp at hu; rcases hu with rfl | rfl | rfl | rfl <;> rfl) (by omega) (by have := HML.out; unfold maxLen; omega) (by have := HML.out; omega) (by have := HSZ4.out; omega) _ rfl ?_; intro g4 cap4 W7 hown4 hgrow4 hat4 hlt4; have hcb5 : W7.heap[g + 1]? = some (.cells #[v] 27 (0, 0)) := (hgrow4.block (g + 1) (by have := HSZ4.out; omega) (fun e => by have := (HROX.out _ e.symm).1; omega)).trans ((HBA4.out.block (g + 1) (by omega)).trans HCB6.out); have s0 : W7.cell? ⟨g + 1, 0, none⟩ = some v := cell_of_row _ _ 0 _ _ (0, 0) hcb5; have sf : W7.frozen? ⟨g + 1, 0, none⟩ = false := by simp [World.frozen?, hcb5])
                have hgB : (W6.alloc (.cells #[.bool true, .int .i64 (nd : Int), (.slice none 0 0), (.slice Ad nd cd)] 34)).grownBy W7 v.ownBlock := ⟨hgrow4.os, hgrow4.tape, hgrow4.output, hgrow4.size, hgrow4.block⟩
                have hrow5 := GRow.append (Q := fun b => (P b ∧ b < g) ∨ g + 2 ≤ b) (m := (true, .mk (nd : Int) [] ds)) (WA := W6.alloc (.cells #[.bool true, .int .i64 (nd : Int), (.slice none 0 0), (.slice Ad nd cd)] 34)) (fun k m hm => by
                    obtain ⟨z0, z1, z2, e0, e1, e2, e3, e4⟩ := HCL.out k m hm
                    exact ⟨z0, z1, z2, e0, e1, e2, e3, e4.below HBA4.out⟩) hcn (HT6.out.below HBA4.out) hown4 hgB hat4
                have HROW5 := Lib.hid (hrow5.keep (W' := W7.setCell ⟨g + 1, 0, none⟩ (.slice (some ⟨g4, 0, none⟩) (ms.length + 1) cap4)) (fun q hq _ => Below.heap_setCell _ _ _ _ (by show q ≠ g + 1; rcases hq with (hq | hq) | hq <;> omega)))
                have hset5 : (W7.setCell ⟨g + 1, 0, none⟩ (.slice (some ⟨g4, 0, none⟩) (ms.length + 1) cap4)).heap[g + 1]? = some (.cells #[.slice (some ⟨g4, 0, none⟩) (ms.length + 1) cap4] 27 (0, 0)) := by
                  simp [World.setCell, Array.getElem?_modify, hcb5]
                have HSET5 := Lib.hid hset5
                have HGR5 := Lib.hid (grown_at (gown (grown_trans HG6.out (grown_below HBA4.out)) hgB (fun q hq => by have := (HROX.out q hq).1; omega)) 0 (.slice (some ⟨g4, 0, none⟩) (ms.length + 1) cap4))
                clear hown4 hgrow4 hat4 hlt4 hcb5 s0 sf hgB hrow5 hset5
                go_roundw
                case rel => exact ⟨k + 1, _, _, by omega, by go_num, HROW5, HSET5, HMK, HGR5⟩
                case measure => simp [intOf]; omega
    · obtain rfl : k = n := by omega
      have hvs : ∃ A c, v = .slice A ms.length c := (hRow.out.mems (P := fun _ => True) (fun _ _ => trivial)).slice
      obtain ⟨Av, cv, rfl⟩ := hvs
      have HOKJ := Lib.hid (HJ.out.ok HN.out)
      obtain ⟨nv, hnv⟩ : ∃ nv, ms.length = nv := ⟨_, rfl⟩
      have HNV := Lib.hid hnv
      have HMS := Lib.hid (hRow.out.mems (P := fun _ => True) (fun _ _ => trivial))
      have HMG := Lib.hid (hRow.out.mems (P := fun b => (P b ∨ w.heap.size ≤ b) ∧ b ≠ g) (fun b hb => by
        have hG := HG.out
        rcases hb with (hb | hb) | hb
        · exact ⟨.inl hb.1, by omega⟩
        · exact ⟨.inr (by omega), by omega⟩
        · exact ⟨.inr (by omega), by omega⟩))
      rw [hnv] at HMS hOut HMG
      have hnvk : nv = k := by rw [← hnv, HJ.out.1]
      clear hnv hRow
      subst hnvk
      have c2 : wr.cell? ⟨g + 1, 0, none⟩ = some (.slice Av nv cv) := cell_of_row _ _ 0 _ _ (0, 0) hOut.out
      have hres : wr.heap[g]? = some (.cells #[.slice none 0 0] 27 (0, 0)) := (hGr.out.block g (by omega) (by simp)).trans K0.out
      have HRES := Lib.hid hres
      have hgl : g < wr.heap.size := by omega
      have hgl1 : g + 1 < wr.heap.size := by omega
      have HBW := Lib.hid (show Below w.heap.size w wr by
        have h1 := HB.out
        rw [← HG.out] at h1
        exact h1.grown hGr.out h1.size (fun q hq => by obtain rfl := Option.some.inj hq; have := HG.out; omega))
      clear hres hGr
      go_wp2_with fail
      refine (D3.rcvalid_run _ ms _ _ (by rw [HNV.out]; omega) HMS.out HOKJ.out).mono ?_
      rintro e Wc ⟨rfl, hbc⟩
      have c3 := (hbc.cell (cell_lt c2)).trans c2
      have hrc := (hbc.block g hgl).trans HRES.out
      have z0 : Wc.cell? ⟨g, 0, none⟩ = some (.slice none 0 0) := cell_of_row _ _ 0 _ _ (0, 0) hrc
      have zf : Wc.frozen? ⟨g, 0, none⟩ = false := by simp [World.frozen?, hrc]
      have hset : (Wc.setCell ⟨g, 0, none⟩ (.slice Av nv cv)).heap[g]? = some (.cells #[.slice Av nv cv] 27 (0, 0)) := by
        simp [World.setCell, Array.getElem?_modify, hrc]
      have Q0 := Lib.hid (show (Wc.setCell ⟨g, 0, none⟩ (.slice Av nv cv)).cell? ⟨g, 0, none⟩ = some (.slice Av nv cv) from cell_of_row _ _ 0 _ _ (0, 0) hset)
      have HF := Lib.hid (show MemsAt (fun b => P b ∨ w.heap.size ≤ b) 3 (Wc.setCell ⟨g, 0, none⟩ (.slice Av nv cv)) (.slice Av nv cv) ms ∧ JoinL all nv tss nv ms ∧ Below w.heap.size w (Wc.setCell ⟨g, 0, none⟩ (.slice Av nv cv)) from
        ⟨((HMG.out.below hbc).both (Q := fun b => P b ∨ w.heap.size ≤ b) (fun q hq hP => Below.heap_setCell _ _ _ q hP.2) (fun _ _ h => h.1)), HJ.out, bset (bstep HBW.out hbc) (p := ⟨g, 0, none⟩) (by have := HG.out; show w.heap.size ≤ g; omega) _⟩)
      clear hset hrc hbc c2
      go_wp2_with fail
      have q0 := Q0.out
      refine bodyPost_ret (v := .tuple #[.agg #[.slice Av nv cv], .int .i64 0]) ?_ rfl ⟨_, ms, rfl, HF.out⟩
      simp [results, Try.results64, go_sem, q0]

end Go.Proofs.Ytnfdacfhhkahhaa

namespace Go.Proofs.Ytnfdacfhhkahhaa
set_option linter.unusedVariables false
set_option linter.unusedSimpArgs false
open Go.RowKit

structure NearW (P : Nat → Prop) (w : World) (sb g : Nat) (t : Int) (v1 v2 : Value) (T : Tree) (W : World) : Prop where
  box : W.heap[g]? = some (.cells #[.int .i64 t, v1, v2] 32 (0, 0))
  res : W.heap[g + 1]? = some (.cells #[.int .i64 0, .slice none 0 0, .slice none 0 0] 32 (0, 0))
  tat : TAt (fun b => P b ∧ b < g) 2 W (.int .i64 t) v1 v2 T
  tape : TapeOk W sb
  gr : w.grownBy W (some sb)

theorem NearW.grow {P : Nat → Prop} {w W W' : World} {sb g : Nat} {t : Int} {v1 v2 : Value} {T : Tree} (h : NearW P w sb g t v1 v2 T W) (hP : ∀ b, P b → b ≠ sb) (hg : sb < g) (hs : TapeOk W' sb) (hr : W.grownBy W' (some sb)) : NearW P w sb g t v1 v2 T W' :=
  ⟨(hr.block _ (Array.getElem?_eq_some_iff.1 h.box).1 (by simp; omega)).trans h.box, (hr.block _ (Array.getElem?_eq_some_iff.1 h.res).1 (by simp; omega)).trans h.res, h.tat.keep (fun k hk hp => hr.block k hk (by simp; exact fun e => hP k hp.1 e)), hs, grown_trans h.gr hr⟩

theorem set3_row {W : World} {r : Nat} {a0 a1 a2 : Value} {t : TypeId} (u0 u1 u2 : Value) (h : W.heap[r]? = some (.cells #[a0, a1, a2] t (0, 0))) : (((W.setCell ⟨r, 0, none⟩ u0).setCell ⟨r, 1, none⟩ u1).setCell ⟨r, 2, none⟩ u2).heap[r]? = some (.cells #[u0, u1, u2] t (0, 0)) := by
  simp [World.setCell, Array.getElem?_modify, h]

theorem set3_far {W : World} {r q : Nat} (u0 u1 u2 : Value) (h : q ≠ r) : (((W.setCell ⟨r, 0, none⟩ u0).setCell ⟨r, 1, none⟩ u1).setCell ⟨r, 2, none⟩ u2).heap[q]? = W.heap[q]? :=
  (Below.heap_setCell _ _ _ q h).trans ((Below.heap_setCell _ _ _ q h).trans (Below.heap_setCell _ _ _ q h))

theorem set1of3 {W : World} {r : Nat} {a0 a1 a2 : Value} {t : TypeId} (u : Value) (h : W.heap[r]? = some (.cells #[a0, a1, a2] t (0, 0))) : (W.setCell ⟨r, 0, none⟩ u).heap[r]? = some (.cells #[u, a1, a2] t (0, 0)) := by
  simp [World.setCell, Array.getElem?_modify, h]

theorem TAt.thr_set {P : Nat → Prop} {d : Nat} {w : World} {t t' : Int} {v1 v2 : Value} {thr : Int} {ns : List Int} {is : List Tree} (h : TAt P (d + 1) w (.int .i64 t) v1 v2 (.mk thr ns is)) : TAt P (d + 1) w (.int .i64 t') v1 v2 (.mk t' ns is) := by
  obtain ⟨_, h1, h2, h3, h4⟩ := h
  exact ⟨rfl, h1, h2, h3, h4⟩

theorem WF.thr_set {n : Int} {d : Nat} {thr t' : Int} {ns : List Int} {is : List Tree} (h : WF n (d + 1) (.mk thr ns is)) (h1 : 1 ≤ t') (h2 : t' ≤ ((ns.length + is.length : Nat) : Int)) : WF n (d + 1) (.mk t' ns is) := by
  obtain ⟨_, _, h3, h4, h5, h6, h7⟩ := h
  exact ⟨h1, h2, h3, h4, h5, h6, h7⟩

set_option maxRecDepth 100000 in
set_option maxHeartbeats 8000000 in
theorem near_run (P : Nat → Prop) (sb n : Nat) (hn : 1 ≤ n) (hn1 : n ≤ 10) (T : Tree) (v0 v1 v2 : Value) (w : World) (hs : TapeOk w sb) (hP : ∀ b, P b → b ≠ sb) (h : TAt P 2 w v0 v1 v2 T) (hW : WF n 2 T) :
    Calls Try.prog 39 #[.pointer (some ⟨sb, 0, none⟩), .agg #[v0, v1, v2], .int .i64 (n : Int)] w fun e w' => ∃ (y0 y1 y2 : Value) (U : Tree), e = .returned (.agg #[y0, y1, y2]) ∧ TAt (fun b => P b ∨ w.heap.size ≤ b) 2 w' y0 y1 y2 U ∧ WF n 2 U ∧ TapeOk w' sb ∧ w.grownBy w' (some sb) := by
  obtain ⟨thr, ns, is⟩ := T
  obtain ⟨t, A1, n1, c1, A2, n2, c2, rfl, rfl, rfl⟩ := h.form
  obtain ⟨hth, _, _, hN, hL⟩ := h.parts
  have hthr : t = thr := by cases hth; rfl
  subst hthr
  obtain ⟨A', c', hA'⟩ := hN.slice
  obtain ⟨B', e', hB'⟩ := hL.slice
  have hn1e : n1 = ns.length := by cases hA'; rfl
  have hn2e : n2 = is.length := by cases hB'; rfl
  have hWb : 1 ≤ t ∧ t ≤ ((ns.length + is.length : Nat) : Int) ∧ ns.length ≤ 10 ∧ is.length ≤ 3 := ⟨hW.1, hW.2.1, hW.2.2.1, hW.2.2.2.1⟩
  have hsl := hs.lt
  have hb2 : Below w.heap.size w ((w.alloc (.cells #[.int .i64 t, .slice A1 n1 c1, .slice A2 n2 c2] 32)).alloc (.cells #[.int .i64 0, .slice none 0 0, .slice none 0 0] 32)) := balloc (balloc (bref w) _) _
  have HW0 := Lib.hid (show NearW P w sb w.heap.size t (.slice A1 n1 c1) (.slice A2 n2 c2) (.mk t ns is) ((w.alloc (.cells #[.int .i64 t, .slice A1 n1 c1, .slice A2 n2 c2] 32)).alloc (.cells #[.int .i64 0, .slice none 0 0, .slice none 0 0] 32)) from
    ⟨alloc_on (alloc_at rfl), alloc_at (alloc_sz _ _), (h.imp (Q := fun b => P b ∧ b < w.heap.size) (fun k hk hp => ⟨hp, hk⟩)).below hb2, (hs.alloc _).alloc _, grown_below hb2⟩)
  have HWF := Lib.hid hW
  have HPS := Lib.hid hP
  have HNE := Lib.hid (And.intro hn1e hn2e)
  rw [← hn1e, ← hn2e] at hWb
  obtain ⟨hw1, hw2, hw3, hw4⟩ := hWb
  clear h hs hP hN hL hth hA' hB' hn1e hn2e hb2 hW
  go_enter Try.func39, Try.ntmps39
  go_upto_region 1 with fail
  generalize ((w.alloc (.cells #[.int .i64 t, .slice A1 n1 c1, .slice A2 n2 c2] 32)).alloc (.cells #[.int .i64 0, .slice none 0 0, .slice none 0 0] 32)) = W1 at *
  generalize hg : w.heap.size = g at *
  have HG := Lib.hid hg
  clear hg
  go_wp2_with fail
  refine (TN_run _ sb _ (by omega) (by omega) HW0.out.tape).mono ?_
  rintro e W2 ⟨r, hr0, hr1, rfl, hs2, hg2⟩
  have HW2 := Lib.hid (HW0.out.grow HPS.out hsl hs2 hg2)
  clear hs2 hg2 HW0
  have b0 : W2.cell? ⟨g, 0, none⟩ = some (.int .i64 t) := cell_of_row _ _ 0 _ _ (0, 0) HW2.out.box
  have b1 : W2.cell? ⟨g, 1, none⟩ = some (.slice A1 n1 c1) := cell_of_row _ _ 1 _ _ (0, 0) HW2.out.box
  have b2 : W2.cell? ⟨g, 2, none⟩ = some (.slice A2 n2 c2) := cell_of_row _ _ 2 _ _ (0, 0) HW2.out.box
  have bf : W2.frozen? ⟨g, 0, none⟩ = false := by simp [World.frozen?, HW2.out.box]
  have z0 : W2.cell? ⟨g + 1, 0, none⟩ = some (.int .i64 0) := cell_of_row _ _ 0 _ _ (0, 0) HW2.out.res
  have z1 : W2.cell? ⟨g + 1, 1, none⟩ = some (.slice none 0 0) := cell_of_row _ _ 1 _ _ (0, 0) HW2.out.res
  have z2 : W2.cell? ⟨g + 1, 2, none⟩ = some (.slice none 0 0) := cell_of_row _ _ 2 _ _ (0, 0) HW2.out.res
  have zf : ∀ j, W2.frozen? ⟨g + 1, j, none⟩ = false := fun j => by simp [World.frozen?, HW2.out.res]
  have zf0 := zf 0
  have zf1 := zf 1
  have zf2 := zf 2
  clear zf
  have hgl1 : g + 1 < W2.heap.size := cell_lt z0
  -- what is left of a case in which the threshold is set to x
  have FIN : Hid (∀ x : Int, 1 ≤ x → x ≤ ((n1 + n2 : Nat) : Int) → ((((W2.setCell ⟨g, 0, none⟩ (.int .i64 x)).setCell ⟨g + 1, 0, none⟩ (.int .i64 x)).setCell ⟨g + 1, 1, none⟩ (.slice A1 n1 c1)).setCell ⟨g + 1, 2, none⟩ (.slice A2 n2 c2)).cell? ⟨g + 1, 0, none⟩ = some (.int .i64 x) ∧ ((((W2.setCell ⟨g, 0, none⟩ (.int .i64 x)).setCell ⟨g + 1, 0, none⟩ (.int .i64 x)).setCell ⟨g + 1, 1, none⟩ (.slice A1 n1 c1)).setCell ⟨g + 1, 2, none⟩ (.slice A2 n2 c2)).cell? ⟨g + 1, 1, none⟩ = some (.slice A1 n1 c1) ∧ ((((W2.setCell ⟨g, 0, none⟩ (.int .i64 x)).setCell ⟨g + 1, 0, none⟩ (.int .i64 x)).setCell ⟨g + 1, 1, none⟩ (.slice A1 n1 c1)).setCell ⟨g + 1, 2, none⟩ (.slice A2 n2 c2)).cell? ⟨g + 1, 2, none⟩ = some (.slice A2 n2 c2) ∧ ∃ (y0 y1 y2 : Value) (U : Tree), Ending.returned (.agg #[.int .i64 x, .slice A1 n1 c1, .slice A2 n2 c2]) = .returned (.agg #[y0, y1, y2]) ∧ TAt (fun b => P b ∨ w.heap.size ≤ b) 2 ((((W2.setCell ⟨g, 0, none⟩ (.int .i64 x)).setCell ⟨g + 1, 0, none⟩ (.int .i64 x)).setCell ⟨g + 1, 1, none⟩ (.slice A1 n1 c1)).setCell ⟨g + 1, 2, none⟩ (.slice A2 n2 c2)) y0 y1 y2 U ∧ WF n 2 U ∧ TapeOk ((((W2.setCell ⟨g, 0, none⟩ (.int .i64 x)).setCell ⟨g + 1, 0, none⟩ (.int .i64 x)).setCell ⟨g + 1, 1, none⟩ (.slice A1 n1 c1)).setCell ⟨g + 1, 2, none⟩ (.slice A2 n2 c2)) sb ∧ w.grownBy ((((W2.setCell ⟨g, 0, none⟩ (.int .i64 x)).setCell ⟨g + 1, 0, none⟩ (.int .i64 x)).setCell ⟨g + 1, 1, none⟩ (.slice A1 n1 c1)).setCell ⟨g + 1, 2, none⟩ (.slice A2 n2 c2)) (some sb)) := Lib.hid (fun x h1 h2 => by
    have hn := HNE.out
    have hrow := set3_row (.int .i64 x) (.slice A1 n1 c1) (.slice A2 n2 c2) ((Below.heap_setCell W2 ⟨g, 0, none⟩ (.int .i64 x) (g + 1) (by show g + 1 ≠ g; omega)).trans HW2.out.res)
    refine ⟨cell_of_row _ _ 0 _ _ (0, 0) hrow, cell_of_row _ _ 1 _ _ (0, 0) hrow, cell_of_row _ _ 2 _ _ (0, 0) hrow, _, _, _, .mk x ns is, rfl, ?_, HWF.out.thr_set h1 (by omega), ?_, ?_⟩
    · refine TAt.both (w := W2) (fun q hq hP => ?_) (fun q _ hP => .inl hP.1) _ _ _ _ _ (HW2.out.tat.thr_set (t' := x))
      exact (set3_far _ _ _ (by omega)).trans (Below.heap_setCell _ _ _ q (by show q ≠ g; omega))
    · exact (((HW2.out.tape.setCell (p := ⟨g, 0, none⟩) (by omega) _).setCell (p := ⟨g + 1, 0, none⟩) (by show sb < g + 1; omega) _).setCell (p := ⟨g + 1, 1, none⟩) (by show sb < g + 1; omega) _).setCell (p := ⟨g + 1, 2, none⟩) (by show sb < g + 1; omega) _
    · have hG := HG.out
      exact gset (gset (gset (gset HW2.out.gr (p := ⟨g, 0, none⟩) (by show w.heap.size ≤ g; omega) _) (p := ⟨g + 1, 0, none⟩) (by show w.heap.size ≤ g + 1; omega) _) (p := ⟨g + 1, 1, none⟩) (by show w.heap.size ≤ g + 1; omega) _) (p := ⟨g + 1, 2, none⟩) (by show w.heap.size ≤ g + 1; omega) _)
  have hr3 : r = 0 ∨ r = 1 ∨ r = 2 := by omega
  rcases hr3 with rfl | rfl | rfl
  · by_cases hmin : ((n1 : Int) + (n2 : Int)) ≤ t + 1
    · skip
      have HF := Lib.hid (FIN.out ((n1 : Int) + (n2 : Int)) (by omega) (by omega))
      go_wp2_with fail
      obtain ⟨q0, q1, q2, HR⟩ := HF.out
      refine bodyPost_ret (v := .agg #[.int .i64 ((n1 : Int) + (n2 : Int)), .slice A1 n1 c1, .slice A2 n2 c2]) ?_ rfl (by obtain ⟨y0, y1, y2, U, h1, h2⟩ := HR; first | exact ⟨y0, y1, y2, U, h1, h2⟩ | exact ⟨y0, y1, y2, h1, U, h2⟩)
      simp [results, Try.results39, go_sem, q0, q1, q2]
    · skip
      have HF := Lib.hid (FIN.out (t + 1) (by omega) (by omega))
      go_wp2_with fail
      obtain ⟨q0, q1, q2, HR⟩ := HF.out
      refine bodyPost_ret (v := .agg #[.int .i64 (t + 1), .slice A1 n1 c1, .slice A2 n2 c2]) ?_ rfl (by obtain ⟨y0, y1, y2, U, h1, h2⟩ := HR; first | exact ⟨y0, y1, y2, U, h1, h2⟩ | exact ⟨y0, y1, y2, h1, U, h2⟩)
      simp [results, Try.results39, go_sem, q0, q1, q2]
  · by_cases hmin : ¬ t - 1 ≤ 1
    · skip
      have HF := Lib.hid (FIN.out (t - 1) (by omega) (by omega))
      go_wp2_with fail
      obtain ⟨q0, q1, q2, HR⟩ := HF.out
      refine bodyPost_ret (v := .agg #[.int .i64 (t - 1), .slice A1 n1 c1, .slice A2 n2 c2]) ?_ rfl (by obtain ⟨y0, y1, y2, U, h1, h2⟩ := HR; first | exact ⟨y0, y1, y2, U, h1, h2⟩ | exact ⟨y0, y1, y2, h1, U, h2⟩)
      simp [results, Try.results39, go_sem, q0, q1, q2]
    · skip
      have HF := Lib.hid (FIN.out (1) (by omega) (by omega))
      go_wp2_with fail
      obtain ⟨q0, q1, q2, HR⟩ := HF.out
      refine bodyPost_ret (v := .agg #[.int .i64 (1), .slice A1 n1 c1, .slice A2 n2 c2]) ?_ rfl (by obtain ⟨y0, y1, y2, U, h1, h2⟩ := HR; first | exact ⟨y0, y1, y2, U, h1, h2⟩ | exact ⟨y0, y1, y2, h1, U, h2⟩)
      simp [results, Try.results39, go_sem, q0, q1, q2]
  · go_wp2_with fail
    refine (mkTrust_run sb n hn hn1 1 (by omega) _ HW2.out.tape).mono ?_
    rintro e W5 ⟨y0, y1, y2, U, rfl, hT5, hf5, hs5, hg5⟩
    obtain ⟨t', A', n', c', B', m', e', rfl, rfl, rfl⟩ := hT5.form
    have hres5 := (hg5.block (g + 1) hgl1 (by simp; omega)).trans HW2.out.res
    have y0 : W5.cell? ⟨g + 1, 0, none⟩ = some (.int .i64 0) := cell_of_row _ _ 0 _ _ (0, 0) hres5
    have y1 : W5.cell? ⟨g + 1, 1, none⟩ = some (.slice none 0 0) := cell_of_row _ _ 1 _ _ (0, 0) hres5
    have y2 : W5.cell? ⟨g + 1, 2, none⟩ = some (.slice none 0 0) := cell_of_row _ _ 2 _ _ (0, 0) hres5
    have yf : ∀ j, W5.frozen? ⟨g + 1, j, none⟩ = false := fun j => by simp [World.frozen?, hres5]
    have yf0 := yf 0
    have yf1 := yf 1
    have yf2 := yf 2
    have hrow := set3_row (.int .i64 t') (.slice A' n' c') (.slice B' m' e') hres5
    have HQ := Lib.hid (show (((W5.setCell ⟨g + 1, 0, none⟩ (.int .i64 t')).setCell ⟨g + 1, 1, none⟩ (.slice A' n' c')).setCell ⟨g + 1, 2, none⟩ (.slice B' m' e')).cell? ⟨g + 1, 0, none⟩ = some (.int .i64 t') ∧ (((W5.setCell ⟨g + 1, 0, none⟩ (.int .i64 t')).setCell ⟨g + 1, 1, none⟩ (.slice A' n' c')).setCell ⟨g + 1, 2, none⟩ (.slice B' m' e')).cell? ⟨g + 1, 1, none⟩ = some (.slice A' n' c') ∧ (((W5.setCell ⟨g + 1, 0, none⟩ (.int .i64 t')).setCell ⟨g + 1, 1, none⟩ (.slice A' n' c')).setCell ⟨g + 1, 2, none⟩ (.slice B' m' e')).cell? ⟨g + 1, 2, none⟩ = some (.slice B' m' e') from
      ⟨cell_of_row _ _ 0 _ _ (0, 0) hrow, cell_of_row _ _ 1 _ _ (0, 0) hrow, cell_of_row _ _ 2 _ _ (0, 0) hrow⟩)
    have HF := Lib.hid (show TAt (fun b => P b ∨ w.heap.size ≤ b) 2 (((W5.setCell ⟨g + 1, 0, none⟩ (.int .i64 t')).setCell ⟨g + 1, 1, none⟩ (.slice A' n' c')).setCell ⟨g + 1, 2, none⟩ (.slice B' m' e')) (.int .i64 t') (.slice A' n' c') (.slice B' m' e') U ∧ WF n 2 U ∧ TapeOk (((W5.setCell ⟨g + 1, 0, none⟩ (.int .i64 t')).setCell ⟨g + 1, 1, none⟩ (.slice A' n' c')).setCell ⟨g + 1, 2, none⟩ (.slice B' m' e')) sb ∧ w.grownBy (((W5.setCell ⟨g + 1, 0, none⟩ (.int .i64 t')).setCell ⟨g + 1, 1, none⟩ (.slice A' n' c')).setCell ⟨g + 1, 2, none⟩ (.slice B' m' e')) (some sb) from
      ⟨TAt.both (w := W5) (fun q hq hP => set3_far _ _ _ (by omega)) (fun q _ hP => .inr (by have := HG.out; omega)) _ _ _ _ _ hT5, hf5.1, ((hs5.setCell (p := ⟨g + 1, 0, none⟩) (by show sb < g + 1; omega) _).setCell (p := ⟨g + 1, 1, none⟩) (by show sb < g + 1; omega) _).setCell (p := ⟨g + 1, 2, none⟩) (by show sb < g + 1; omega) _,
        gset (gset (gset (grown_trans HW2.out.gr hg5) (p := ⟨g + 1, 0, none⟩) (by have := HG.out; show w.heap.size ≤ g + 1; omega) _) (p := ⟨g + 1, 1, none⟩) (by have := HG.out; show w.heap.size ≤ g + 1; omega) _) (p := ⟨g + 1, 2, none⟩) (by have := HG.out; show w.heap.size ≤ g + 1; omega) _⟩)
    clear hT5 hf5 hs5 hg5 hres5 yf hrow b0 b1 b2 bf z0 z1 z2 zf0 zf1 zf2 FIN
    go_wp2_with fail
    obtain ⟨q0, q1, q2⟩ := HQ.out
    refine bodyPost_ret (v := .agg #[.int .i64 t', .slice A' n' c', .slice B' m' e']) ?_ rfl ⟨_, _, _, U, rfl, HF.out⟩
    simp [results, Try.results39, go_sem, q0, q1, q2]

end Go.Proofs.Ytnfdacfhhkahhaa

namespace Go.Proofs.Ytnfdacfhhkahhaa
set_option linter.unusedVariables false
set_option linter.unusedSimpArgs false
open Go.RowKit

/-- A pair of configurations: as many members, the same ones declared, and what satisfies a trust of High satisfies that of Low. -/
structure PairM (ls hs : List Mem) : Prop where
  len : hs.length = ls.length
  one : 1 ≤ ls.length
  okl : D3.MemsOk ls.length ls
  okh : D3.MemsOk hs.length hs
  dec : ∀ (k : Nat) (l h : Mem), ls[k]? = some l → hs[k]? = some h → h.1 = l.1
  imp : ∀ (k : Nat) (l h : Mem), ls[k]? = some l → hs[k]? = some h → l.1 = true → ∀ p, holdsT 3 p h.2 = true → holdsT 3 p l.2 = true

theorem PairM.same {ms : List Mem} (h1 : 1 ≤ ms.length) (h : D3.MemsOk ms.length ms) : PairM ms ms :=
  ⟨rfl, h1, h, h, fun k l x e1 e2 => by rw [e1] at e2; cases e2; rfl, fun k l x e1 e2 _ p hp => by rw [e1] at e2; cases e2; exact hp⟩

theorem PairM.joined {n : Nat} {tss : List (List Tree)} {ls hs : List Mem} (h1 : 1 ≤ n) (hn : tss.length = n) (hl : JoinL false (n : Int) tss n ls) (hh : JoinL true (n : Int) tss n hs) : PairM ls hs := by
  refine ⟨by rw [hl.1, hh.1], by rw [hl.1]; exact h1, hl.ok hn, hh.ok hn, fun k l h e1 e2 => ?_, fun k l h e1 e2 hd p hp => ?_⟩
  · have hk : k < tss.length := by have := (List.getElem?_eq_some_iff.1 e1).1; have := hl.1; omega
    have a := hl.2 k _ l (List.getElem?_eq_getElem hk) e1
    have b := hh.2 k _ h (List.getElem?_eq_getElem hk) e2
    by_cases h0 : tss[k] = []
    · rw [a.1 h0, b.1 h0]
    · rw [(a.2 h0).1, (b.2 h0).1]
  · have hk : k < tss.length := by have := (List.getElem?_eq_some_iff.1 e1).1; have := hl.1; omega
    have a := hl.2 k _ l (List.getElem?_eq_getElem hk) e1
    have b := hh.2 k _ h (List.getElem?_eq_getElem hk) e2
    by_cases h0 : tss[k] = []
    · rw [a.1 h0] at hd; cases hd
    · obtain ⟨_, _, ds, hne, hm, he⟩ := a.2 h0
      obtain ⟨_, _, ds', hne', hm', he'⟩ := b.2 h0
      rw [he' p, if_pos rfl, List.all_eq_true] at hp
      rw [he p, if_neg (by simp), List.any_eq_true]
      obtain ⟨d, hd⟩ := List.exists_mem_of_ne_nil ds hne
      exact ⟨d, hd, hp d ((hm' d).2 ((hm d).1 hd))⟩

/-- A row of lists of trusts of its own. -/
def LRow (Q : Nat → Prop) (B : Nat) (W : World) (v : Value) (tss : List (List Tree)) : Prop :=
  ∃ us : List Value, W.ownsRow B 30 1 v tss.length us ∧ ∀ (k : Nat) (u : Value) (ts : List Tree), us[k]? = some u → tss[k]? = some ts → ListT (fun b => Q b ∧ v.ownBlock ≠ some b) 2 W u ts

theorem LRow.nil (Q : Nat → Prop) (B : Nat) (W : World) : LRow Q B W (.slice none 0 0) [] := ⟨[], World.ownsRow_nil _ _ _ _, fun k u ts h => by cases h⟩

theorem LRow.own {Q : Nat → Prop} {B : Nat} {W : World} {v : Value} {tss : List (List Tree)} (h : LRow Q B W v tss) : ∀ j, v.ownBlock = some j → B ≤ j ∧ j < W.heap.size := by
  obtain ⟨cs, h1, _⟩ := h
  exact h1.lt

theorem LRow.keep {Q : Nat → Prop} {B : Nat} {W W' : World} {v : Value} {tss : List (List Tree)} (h : LRow Q B W v tss) (hk : ∀ q, (Q q ∨ B ≤ q) → q < W.heap.size → W'.heap[q]? = W.heap[q]?) : LRow Q B W' v tss := by
  obtain ⟨cs, h1, h2⟩ := h
  exact ⟨cs, own_keepG h1 (fun j _ hB hl => hk j (.inr hB) hl), fun k u ts e1 e2 => (h2 k u ts e1 e2).both (fun q hq hP => hk q (.inl hP.1) hq) (fun _ _ h => h)⟩

theorem LRow.list {Q : Nat → Prop} {B : Nat} {W : World} {v : Value} {tss : List (List Tree)} {P : Nat → Prop} (h : LRow Q B W v tss) (hP : ∀ b, (Q b ∨ B ≤ b) → P b) : LLAt P W v tss := by
  obtain ⟨us, h1, h2⟩ := h
  have hl : us.length = tss.length := by have := h1.1; omega
  rcases h1.2 with ⟨hv, h0⟩ | ⟨g, cap, cur, hv, hb, _⟩
  · exact ⟨none, 0, by rw [hv, h0], fun k T hT => by have := (List.getElem?_eq_some_iff.1 hT).1; omega⟩
  · refine ⟨some ⟨g, 0, none⟩, cap, hv, fun k ts hT => ?_⟩
    obtain ⟨u, hu⟩ : ∃ u, us[k]? = some u := ⟨_, List.getElem?_eq_getElem (by rw [hl]; exact (List.getElem?_eq_some_iff.1 hT).1)⟩
    have := h1.cells (g := g) (by rw [hv]; rfl) k u hu
    rw [Addr.add_lit] at this
    exact ⟨g, 0, u, rfl, hP g (.inr hb), this, (h2 k u ts hu hT).both (fun _ _ _ => rfl) (fun b _ h => hP b (.inl h.1))⟩

theorem LRow.append {Q : Nat → Prop} {B : Nat} {WA W4 : World} {lv u : Value} {tss : List (List Tree)} {ts : List Tree} {g4 cap4 : Nat} {us : List Value}
    (hcl : ∀ (k : Nat) (u : Value) (ts : List Tree), us[k]? = some u → tss[k]? = some ts → ListT (fun b => Q b ∧ lv.ownBlock ≠ some b) 2 WA u ts) (hcn : us.length = tss.length)
    (hT : ListT (fun b => Q b ∧ lv.ownBlock ≠ some b) 2 WA u ts)
    (hown4 : W4.ownsRow B 30 1 (.slice (some ⟨g4, 0, none⟩) (tss.length + 1) cap4) (tss.length + 1) (us ++ [u])) (hg4 : WA.grownBy W4 lv.ownBlock) (hat4 : lv.ownBlock = some g4 ∨ g4 = WA.heap.size) :
    LRow Q B W4 (.slice (some ⟨g4, 0, none⟩) (tss.length + 1) cap4) (tss ++ [ts]) := by
  have up : ∀ {y : Value} {S : List Tree}, ListT (fun b => Q b ∧ lv.ownBlock ≠ some b) 2 WA y S → ListT (fun b => Q b ∧ (Value.slice (some ⟨g4, 0, none⟩) (tss.length + 1) cap4).ownBlock ≠ some b) 2 W4 y S := fun h =>
    h.both (fun q hq hP => hg4.block q hq (fun e => hP.2 e.symm)) (fun q hq hP => ⟨hP.1, fun e => by
      have e' : g4 = q := by simpa [Value.ownBlock] using e
      rcases hat4 with hat | hat
      · exact hP.2 (by rw [hat, e'])
      · omega⟩)
  refine ⟨us ++ [u], by simpa using hown4, fun k y S e1 e2 => ?_⟩
  rcases Nat.lt_or_ge k tss.length with hk | hk
  · rw [List.getElem?_append_left (by omega)] at e1
    rw [List.getElem?_append_left hk] at e2
    exact up (hcl k y S e1 e2)
  · have hk2 : k = tss.length := by
      have := (List.getElem?_eq_some_iff.1 e2).1
      simp at this; omega
    subst hk2
    have e2' : S = ts := by simpa using e2.symm
    rw [List.getElem?_append_right (by omega), hcn, Nat.sub_self] at e1
    have e1' : u = y := by simpa using e1
    subst e2'; subst e1'
    exact up hT

/-- A row of trusts of its own from B on, with what they refer to in blocks of Q and not in the row. -/
def GT (Q : Nat → Prop) (B d : Nat) (W : World) (v : Value) (ts : List Tree) : Prop :=
  ∃ cs : List Value, W.ownsRow B 32 3 v ts.length cs ∧ ∀ (k : Nat) (T : Tree), ts[k]? = some T → ∃ x0 x1 x2, cs[k * 3]? = some x0 ∧ cs[k * 3 + 1]? = some x1 ∧ cs[k * 3 + 2]? = some x2 ∧ TAt (fun b => Q b ∧ v.ownBlock ≠ some b) d W x0 x1 x2 T

theorem GT.nil (Q : Nat → Prop) (B d : Nat) (W : World) : GT Q B d W (.slice none 0 0) [] := ⟨[], World.ownsRow_nil _ _ _ _, fun k T h => by simp at h⟩

theorem GT.own {Q : Nat → Prop} {B d : Nat} {W : World} {v : Value} {ts : List Tree} (h : GT Q B d W v ts) : ∀ j, v.ownBlock = some j → B ≤ j ∧ j < W.heap.size := by
  obtain ⟨cs, h1, _⟩ := h
  exact h1.lt

theorem GT.keep {Q : Nat → Prop} {B d : Nat} {W W' : World} {v : Value} {ts : List Tree} (h : GT Q B d W v ts) (hk : ∀ q, (Q q ∨ B ≤ q) → q < W.heap.size → W'.heap[q]? = W.heap[q]?) : GT Q B d W' v ts := by
  obtain ⟨cs, h1, h2⟩ := h
  refine ⟨cs, own_keepG h1 (fun j _ hB hl => hk j (.inr hB) hl), fun k T hT => ?_⟩
  obtain ⟨x0, x1, x2, e0, e1, e2, e3⟩ := h2 k T hT
  exact ⟨x0, x1, x2, e0, e1, e2, e3.keep (fun q hq hP => hk q (.inl hP.1) hq)⟩

theorem GT.append {Q : Nat → Prop} {B d : Nat} {WA W4 : World} {lv x0 x1 x2 : Value} {ts : List Tree} {T : Tree} {g4 cap4 : Nat} {cs : List Value}
    (hcl : ∀ (k : Nat) (T : Tree), ts[k]? = some T → ∃ x0 x1 x2, cs[k * 3]? = some x0 ∧ cs[k * 3 + 1]? = some x1 ∧ cs[k * 3 + 2]? = some x2 ∧ TAt (fun b => Q b ∧ lv.ownBlock ≠ some b) d WA x0 x1 x2 T) (hcn : cs.length = ts.length * 3)
    (hT : TAt (fun b => Q b ∧ lv.ownBlock ≠ some b) d WA x0 x1 x2 T)
    (hown4 : W4.ownsRow B 32 3 (.slice (some ⟨g4, 0, none⟩) (ts.length + 1) cap4) (ts.length + 1) (cs ++ [x0, x1, x2])) (hg4 : WA.grownBy W4 lv.ownBlock) (hat4 : lv.ownBlock = some g4 ∨ g4 = WA.heap.size) :
    GT Q B d W4 (.slice (some ⟨g4, 0, none⟩) (ts.length + 1) cap4) (ts ++ [T]) := by
  have up : ∀ {y0 y1 y2 : Value} {S : Tree}, TAt (fun b => Q b ∧ lv.ownBlock ≠ some b) d WA y0 y1 y2 S → TAt (fun b => Q b ∧ (Value.slice (some ⟨g4, 0, none⟩) (ts.length + 1) cap4).ownBlock ≠ some b) d W4 y0 y1 y2 S := fun h =>
    TAt.both (fun q hq hP => hg4.block q hq (fun e => hP.2 e.symm)) (fun q hq hP => ⟨hP.1, fun e => by
      have e' : g4 = q := by simpa [Value.ownBlock] using e
      rcases hat4 with hat | hat
      · exact hP.2 (by rw [hat, e'])
      · omega⟩) _ _ _ _ _ h
  refine ⟨cs ++ [x0, x1, x2], by simpa using hown4, fun k S hS => ?_⟩
  rcases Nat.lt_or_ge k ts.length with hk | hk
  · rw [List.getElem?_append_left hk] at hS
    obtain ⟨y0, y1, y2, e0, e1, e2, e3⟩ := hcl k S hS
    exact ⟨y0, y1, y2, by rw [List.getElem?_append_left (by omega)]; exact e0, by rw [List.getElem?_append_left (by omega)]; exact e1, by rw [List.getElem?_append_left (by omega)]; exact e2, up e3⟩
  · have hk2 : k = ts.length := by
      have := (List.getElem?_eq_some_iff.1 hS).1
      simp at this; omega
    subst hk2
    have hS' : S = T := by simpa using hS.symm
    subst hS'
    refine ⟨x0, x1, x2, ?_, ?_, ?_, up hT⟩
    · rw [List.getElem?_append_right (by omega)]; simp [hcn]
    · rw [List.getElem?_append_right (by omega), show ts.length * 3 + 1 - cs.length = 1 by omega]; rfl
    · rw [List.getElem?_append_right (by omega), show ts.length * 3 + 2 - cs.length = 2 by omega]; rfl

theorem GT.list {Q : Nat → Prop} {B d : Nat} {W : World} {v : Value} {ts : List Tree} {P : Nat → Prop} (h : GT Q B d W v ts) (hP : ∀ b, (Q b ∨ B ≤ b) → P b) : ListT P d W v ts := by
  obtain ⟨cs, h1, h2⟩ := h
  rcases h1.2 with ⟨hv, h0⟩ | ⟨g, cap, cur, hv, hb, _⟩
  · exact ⟨none, 0, by rw [hv, h0], fun k T hT => by have := (List.getElem?_eq_some_iff.1 hT).1; omega⟩
  · refine ⟨some ⟨g, 0, none⟩, cap, hv, fun k T hT => ?_⟩
    obtain ⟨x0, x1, x2, e0, e1, e2, e3⟩ := h2 k T hT
    have c : ∀ j u, cs[j]? = some u → W.cell? ⟨g, 0 + j, none⟩ = some u := fun j u hu => by
      have := h1.cells (g := g) (by rw [hv]; rfl) j u hu
      rwa [Addr.add_lit] at this
    exact ⟨g, 0, x0, x1, x2, rfl, hP g (.inr hb), c _ _ e0, by rw [Nat.add_assoc]; exact c _ _ e1, by rw [Nat.add_assoc]; exact c _ _ e2, e3.imp (fun q _ hq => hP q (.inl hq.1))⟩

set_option maxRecDepth 100000 in
set_option maxHeartbeats 1000000 in
theorem low_run (P : Nat → Prop) (tss : List (List Tree)) (n : Nat) (v0 : Value) (w : World) (hn : tss.length = n) (hn10 : n ≤ 10) (h3 : ∀ ts ∈ tss, ts.length ≤ 3) (hwf : ∀ ts ∈ tss, ∀ T ∈ ts, WF n 2 T) (h : LLAt P w v0 tss) :
    Calls Try.prog 40 #[v0] w fun e w' => ∃ v' ms, e = .returned (.tuple #[.agg #[v'], .int .i64 0]) ∧ MemsAt (fun b => P b ∨ w.heap.size ≤ b) 3 w' v' ms ∧ JoinL false n tss n ms ∧ Below w.heap.size w w' := by
  have hba := balloc (bref w) (.cells #[.slice none 0 0] 27)
  have HK := Lib.hid (show (w.alloc (.cells #[.slice none 0 0] 27)).heap[w.heap.size]? = some (.cells #[.slice none 0 0] 27 (0, 0)) from alloc_at rfl)
  have HSZ := Lib.hid (alloc_sz w (.cells #[.slice none 0 0] 27))
  have HJ := Lib.hid (joined_run (fun b => P b ∧ b < w.heap.size) tss false n v0 (w.alloc (.cells #[.slice none 0 0] 27)) hn hn10 h3 hwf (by
    obtain ⟨A, c, h1, h2⟩ := h
    refine ⟨A, c, h1, fun k ts ht => ?_⟩
    obtain ⟨b, off, u, e1, e2, e3, e4⟩ := h2 k ts ht
    exact ⟨b, off, u, e1, ⟨e2, cell_lt e3⟩, (hba.cell (cell_lt e3)).trans e3, (e4.both (Q := fun b => P b ∧ b < w.heap.size) (fun _ _ _ => rfl) (fun k hk hp => ⟨hp, hk⟩)).below hba⟩))
  have HB := Lib.hid hba
  obtain ⟨A, c, rfl, _⟩ := h
  clear hn hn10 h3 hwf hba
  go_enter Try.func40, Try.ntmps40
  go_upto_region 1 with fail
  generalize (w.alloc (.cells #[.slice none 0 0] 27)) = W1 at *
  generalize hg : w.heap.size = g at *
  have HG := Lib.hid hg
  clear hg
  go_wp2_with fail
  refine HJ.out.mono ?_
  rintro e Wc ⟨v', ms, rfl, h1, h2, hb⟩
  obtain ⟨Av, cv, rfl⟩ := h1.slice
  obtain ⟨nv, hnv⟩ : ∃ nv, ms.length = nv := ⟨_, rfl⟩
  rw [hnv] at h1 ⊢
  have hrc := (hb.block g (Array.getElem?_eq_some_iff.1 HK.out).1).trans HK.out
  have z0 : Wc.cell? ⟨g, 0, none⟩ = some (.slice none 0 0) := cell_of_row _ _ 0 _ _ (0, 0) hrc
  have zf : Wc.frozen? ⟨g, 0, none⟩ = false := by simp [World.frozen?, hrc]
  have hset : (Wc.setCell ⟨g, 0, none⟩ (.slice Av nv cv)).heap[g]? = some (.cells #[.slice Av nv cv] 27 (0, 0)) := by
    simp [World.setCell, Array.getElem?_modify, hrc]
  have Q0 := Lib.hid (show (Wc.setCell ⟨g, 0, none⟩ (.slice Av nv cv)).cell? ⟨g, 0, none⟩ = some (.slice Av nv cv) from cell_of_row _ _ 0 _ _ (0, 0) hset)
  have HF := Lib.hid (show MemsAt (fun b => P b ∨ w.heap.size ≤ b) 3 (Wc.setCell ⟨g, 0, none⟩ (.slice Av nv cv)) (.slice Av nv cv) ms ∧ JoinL false n tss n ms ∧ Below w.heap.size w (Wc.setCell ⟨g, 0, none⟩ (.slice Av nv cv)) from by
    have hG := HG.out
    have hS := HSZ.out
    have hB := HB.out
    refine ⟨h1.both (fun q hq hP => Below.heap_setCell _ _ _ q (by show q ≠ g; rcases hP with hP | hP <;> omega)) (fun q _ hP => ?_), h2, bset (bstep (by rw [hG]; exact hB) hb) (p := ⟨g, 0, none⟩) (by show w.heap.size ≤ g; omega) _⟩
    rcases hP with hP | hP
    · exact .inl hP.1
    · exact .inr (by omega))
  clear hset hrc hb h1 h2 hnv HJ
  go_wp2_with fail
  have q0 := Q0.out
  refine bodyPost_ret (v := .tuple #[.agg #[.slice Av nv cv], .int .i64 0]) ?_ rfl ⟨_, ms, rfl, HF.out⟩
  simp [results, Try.results40, go_sem, q0]

set_option maxRecDepth 100000 in
set_option maxHeartbeats 1000000 in
theorem high_run (P : Nat → Prop) (tss : List (List Tree)) (n : Nat) (v0 : Value) (w : World) (hn : tss.length = n) (hn10 : n ≤ 10) (h3 : ∀ ts ∈ tss, ts.length ≤ 3) (hwf : ∀ ts ∈ tss, ∀ T ∈ ts, WF n 2 T) (h : LLAt P w v0 tss) :
    Calls Try.prog 41 #[v0] w fun e w' => ∃ v' ms, e = .returned (.tuple #[.agg #[v'], .int .i64 0]) ∧ MemsAt (fun b => P b ∨ w.heap.size ≤ b) 3 w' v' ms ∧ JoinL true n tss n ms ∧ Below w.heap.size w w' := by
  have hba := balloc (bref w) (.cells #[.slice none 0 0] 27)
  have HK := Lib.hid (show (w.alloc (.cells #[.slice none 0 0] 27)).heap[w.heap.size]? = some (.cells #[.slice none 0 0] 27 (0, 0)) from alloc_at rfl)
  have HSZ := Lib.hid (alloc_sz w (.cells #[.slice none 0 0] 27))
  have HJ := Lib.hid (joined_run (fun b => P b ∧ b < w.heap.size) tss true n v0 (w.alloc (.cells #[.slice none 0 0] 27)) hn hn10 h3 hwf (by
    obtain ⟨A, c, h1, h2⟩ := h
    refine ⟨A, c, h1, fun k ts ht => ?_⟩
    obtain ⟨b, off, u, e1, e2, e3, e4⟩ := h2 k ts ht
    exact ⟨b, off, u, e1, ⟨e2, cell_lt e3⟩, (hba.cell (cell_lt e3)).trans e3, (e4.both (Q := fun b => P b ∧ b < w.heap.size) (fun _ _ _ => rfl) (fun k hk hp => ⟨hp, hk⟩)).below hba⟩))
  have HB := Lib.hid hba
  obtain ⟨A, c, rfl, _⟩ := h
  clear hn hn10 h3 hwf hba
  go_enter Try.func41, Try.ntmps41
  go_upto_region 1 with fail
  generalize (w.alloc (.cells #[.slice none 0 0] 27)) = W1 at *
  generalize hg : w.heap.size = g at *
  have HG := Lib.hid hg
  clear hg
  go_wp2_with fail
  refine HJ.out.mono ?_
  rintro e Wc ⟨v', ms, rfl, h1, h2, hb⟩
  obtain ⟨Av, cv, rfl⟩ := h1.slice
  obtain ⟨nv, hnv⟩ : ∃ nv, ms.length = nv := ⟨_, rfl⟩
  rw [hnv] at h1 ⊢
  have hrc := (hb.block g (Array.getElem?_eq_some_iff.1 HK.out).1).trans HK.out
  have z0 : Wc.cell? ⟨g, 0, none⟩ = some (.slice none 0 0) := cell_of_row _ _ 0 _ _ (0, 0) hrc
  have zf : Wc.frozen? ⟨g, 0, none⟩ = false := by simp [World.frozen?, hrc]
  have hset : (Wc.setCell ⟨g, 0, none⟩ (.slice Av nv cv)).heap[g]? = some (.cells #[.slice Av nv cv] 27 (0, 0)) := by
    simp [World.setCell, Array.getElem?_modify, hrc]
  have Q0 := Lib.hid (show (Wc.setCell ⟨g, 0, none⟩ (.slice Av nv cv)).cell? ⟨g, 0, none⟩ = some (.slice Av nv cv) from cell_of_row _ _ 0 _ _ (0, 0) hset)
  have HF := Lib.hid (show MemsAt (fun b => P b ∨ w.heap.size ≤ b) 3 (Wc.setCell ⟨g, 0, none⟩ (.slice Av nv cv)) (.slice Av nv cv) ms ∧ JoinL true n tss n ms ∧ Below w.heap.size w (Wc.setCell ⟨g, 0, none⟩ (.slice Av nv cv)) from by
    have hG := HG.out
    have hS := HSZ.out
    have hB := HB.out
    refine ⟨h1.both (fun q hq hP => Below.heap_setCell _ _ _ q (by show q ≠ g; rcases hP with hP | hP <;> omega)) (fun q _ hP => ?_), h2, bset (bstep (by rw [hG]; exact hB) hb) (p := ⟨g, 0, none⟩) (by show w.heap.size ≤ g; omega) _⟩
    rcases hP with hP | hP
    · exact .inl hP.1
    · exact .inr (by omega))
  clear hset hrc hb h1 h2 hnv HJ
  go_wp2_with fail
  have q0 := Q0.out
  refine bodyPost_ret (v := .tuple #[.agg #[.slice Av nv cv], .int .i64 0]) ?_ rfl ⟨_, ms, rfl, HF.out⟩
  simp [results, Try.results41, go_sem, q0]

end Go.Proofs.Ytnfdacfhhkahhaa

namespace Go.Proofs.Ytnfdacfhhkahhaa
set_option linter.unusedVariables false
set_option linter.unusedSimpArgs false
open Go.RowKit Go.Shelf
attribute [local go_sem] Oper.semAt_some

theorem fr_of {W : World} {b o : Nat} {cs : Array Value} {t : TypeId} (h : W.heap[b]? = some (.cells cs t (0, 0))) : W.frozen? ⟨b, o, none⟩ = false := by simp [World.frozen?, h]

def boolS (b : Bool) (s : Nat) : Nat := if b then 20001 - keyN s else 0

end Go.Proofs.Ytnfdacfhhkahhaa

namespace Go.Proofs.Ytnfdacfhhkahhaa
set_option linter.unusedVariables false
set_option linter.unusedSimpArgs false
open Go.RowKit

def ImplT (w : World) (d : Nat) (T U : Tree) (t : Int) (A1 : Option Addr) (n1 c1 : Nat) (A2 : Option Addr) (n2 c2 : Nat) (t' : Int) (B1 : Option Addr) (m1 e1 : Nat) (B2 : Option Addr) (m2 e2 : Nat) (W : World) : Prop :=
  TAt (fun _ => True) d W (.int .i64 t) (.slice A1 n1 c1) (.slice A2 n2 c2) T ∧ TAt (fun _ => True) d W (.int .i64 t') (.slice B1 m1 e1) (.slice B2 m2 e2) U ∧ Below w.heap.size w W

end Go.Proofs.Ytnfdacfhhkahhaa

namespace Go.Proofs.Ytnfdacfhhkahhaa
set_option linter.unusedVariables false
set_option linter.unusedSimpArgs false
open Go.RowKit

theorem or_i64 (a b : Nat) (ha : a < 1024) (hb : b < 1024) : bits .or .i64 (a : Int) (b : Int) = ((a ||| b : Nat) : Int) := i64_or_nat a b (by omega) (by omega)

theorem qKeep {W W' : World} {q g : Nat} {x : Int} (h : W.heap[q]? = some (.cells #[.int .i64 x] 3 (0, 0)) ∧ g + 3 ≤ q) (hb : Below W.heap.size W W') : W'.heap[q]? = some (.cells #[.int .i64 x] 3 (0, 0)) ∧ g + 3 ≤ q := ⟨(hb.block _ (Array.getElem?_eq_some_iff.1 h.1).1).trans h.1, h.2⟩

theorem qCell {W : World} {q g : Nat} {x : Int} (h : W.heap[q]? = some (.cells #[.int .i64 x] 3 (0, 0)) ∧ g + 3 ≤ q) : W.cell? ⟨q, 0, none⟩ = some (.int .i64 x) := cell_of_row _ _ 0 _ _ (0, 0) h.1

theorem qFr {W : World} {q g : Nat} {x : Int} (h : W.heap[q]? = some (.cells #[.int .i64 x] 3 (0, 0)) ∧ g + 3 ≤ q) : W.frozen? ⟨q, 0, none⟩ = false := fr_of h.1

theorem qLt {W : World} {q g : Nat} {x : Int} (h : W.heap[q]? = some (.cells #[.int .i64 x] 3 (0, 0)) ∧ g + 3 ≤ q) : q < W.heap.size := (Array.getElem?_eq_some_iff.1 h.1).1

theorem qSet {W : World} {q g : Nat} {y x : Int} (h : W.heap[q]? = some (.cells #[.int .i64 y] 3 (0, 0)) ∧ g + 3 ≤ q) : (W.setCell ⟨q, 0, none⟩ (.int .i64 x)).cell? ⟨q, 0, none⟩ = some (.int .i64 x) := World.cell?_setCell_same _ _ _ (qCell h)

end Go.Proofs.Ytnfdacfhhkahhaa

namespace Go.Proofs.Ytnfdacfhhkahhaa
set_option linter.unusedVariables false
set_option linter.unusedSimpArgs false
open Go.RowKit

end Go.Proofs.Ytnfdacfhhkahhaa

namespace Go.Proofs.Ytnfdacfhhkahhaa
set_option linter.unusedVariables false
set_option linter.unusedSimpArgs false
open Go.RowKit

/-- Two configurations in boxes. -/
structure PA (P Q : Nat → Prop) (w0 : World) (g : Nat) (vl vh : Value) (ls hs : List Mem) (W : World) : Prop where
  l : W.heap[g]? = some (.cells #[vl] 27 (0, 0))
  h : W.heap[g + 1]? = some (.cells #[vh] 27 (0, 0))
  ml : MemsAt P 3 W vl ls
  mh : MemsAt Q 3 W vh hs
  bel : Below w0.heap.size w0 W

theorem PA.to {P Q : Nat → Prop} {w0 W W' : World} {g : Nat} {vl vh : Value} {ls hs : List Mem} (h : PA P Q w0 g vl vh ls hs W) (hb : Below W.heap.size W W') : PA P Q w0 g vl vh ls hs W' :=
  ⟨(hb.block _ (Array.getElem?_eq_some_iff.1 h.l).1).trans h.l, (hb.block _ (Array.getElem?_eq_some_iff.1 h.h).1).trans h.h, h.ml.below hb, h.mh.below hb, bstep h.bel hb⟩

theorem PA.cs {P Q : Nat → Prop} {w0 W : World} {g : Nat} {vl vh : Value} {ls hs : List Mem} (h : PA P Q w0 g vl vh ls hs W) : W.cell? ⟨g, 0, none⟩ = some vl ∧ W.cell? ⟨g + 1, 0, none⟩ = some vh ∧ PA P Q w0 g vl vh ls hs W :=
  ⟨cell_of_row _ _ 0 _ _ (0, 0) h.l, cell_of_row _ _ 0 _ _ (0, 0) h.h, h⟩

theorem paKeep {P Q : Nat → Prop} {w0 W W' : World} {g : Nat} {vl vh : Value} {ls hs : List Mem} (h : W.cell? ⟨g, 0, none⟩ = some vl ∧ W.cell? ⟨g + 1, 0, none⟩ = some vh ∧ PA P Q w0 g vl vh ls hs W) (hb : Below W.heap.size W W') : W'.cell? ⟨g, 0, none⟩ = some vl ∧ W'.cell? ⟨g + 1, 0, none⟩ = some vh ∧ PA P Q w0 g vl vh ls hs W' := (h.2.2.to hb).cs

theorem paSelf {P Q : Nat → Prop} {w0 W : World} {g : Nat} {vl vh : Value} {ls hs : List Mem} (h : W.cell? ⟨g, 0, none⟩ = some vl ∧ W.cell? ⟨g + 1, 0, none⟩ = some vh ∧ PA P Q w0 g vl vh ls hs W) : PA P Q w0 g vl vh ls hs W := h.2.2

theorem PA.new {P Q : Nat → Prop} {w : World} {vl vh : Value} {ls hs : List Mem} (h1 : MemsAt P 3 w vl ls) (h2 : MemsAt Q 3 w vh hs) : PA P Q w w.heap.size vl vh ls hs ((w.alloc (.cells #[vl] 27)).alloc (.cells #[vh] 27)) :=
  ⟨alloc_on (alloc_at rfl), alloc_at (alloc_sz _ _), h1.below (balloc (balloc (bref w) _) _), h2.below (balloc (balloc (bref w) _) _), balloc (balloc (bref w) _) _⟩

/-- The trusts of a declared member, and the boxes. -/
def SV (P Q : Nat → Prop) (w0 : World) (g b off b' off' k n c d : Nat) (t t' : Int) (u1 u2 y1 y2 : Value) (T U : Tree) (ls hs : List Mem) (W : World) : Prop :=
  W.cell? ⟨g, 0, none⟩ = some (.slice (some ⟨b, off, none⟩) n c) ∧ W.cell? ⟨g + 1, 0, none⟩ = some (.slice (some ⟨b', off', none⟩) n d) ∧ W.cell? ⟨b, off + k * 4 + 1, none⟩ = some (.int .i64 t) ∧ W.cell? ⟨b, off + k * 4 + 2, none⟩ = some u1 ∧ W.cell? ⟨b, off + k * 4 + 3, none⟩ = some u2 ∧ W.cell? ⟨b', off' + k * 4 + 1, none⟩ = some (.int .i64 t') ∧ W.cell? ⟨b', off' + k * 4 + 2, none⟩ = some y1 ∧ W.cell? ⟨b', off' + k * 4 + 3, none⟩ = some y2 ∧
    (PA P Q w0 g (.slice (some ⟨b, off, none⟩) n c) (.slice (some ⟨b', off', none⟩) n d) ls hs W ∧ TAt P 3 W (.int .i64 t) u1 u2 T ∧ TAt Q 3 W (.int .i64 t') y1 y2 U)

theorem SV.keep {P Q : Nat → Prop} {w0 W W' : World} {g b off b' off' k n c d : Nat} {t t' : Int} {u1 u2 y1 y2 : Value} {T U : Tree} {ls hs : List Mem} (h : SV P Q w0 g b off b' off' k n c d t t' u1 u2 y1 y2 T U ls hs W) (hb : Below W.heap.size W W') : SV P Q w0 g b off b' off' k n c d t t' u1 u2 y1 y2 T U ls hs W' := by
  obtain ⟨e0, e1, e2, e3, e4, e5, e6, e7, h1, h2, h3⟩ := h
  exact ⟨(hb.cell (cell_lt e0)).trans e0, (hb.cell (cell_lt e1)).trans e1, (hb.cell (cell_lt e2)).trans e2, (hb.cell (cell_lt e3)).trans e3, (hb.cell (cell_lt e4)).trans e4, (hb.cell (cell_lt e5)).trans e5, (hb.cell (cell_lt e6)).trans e6, (hb.cell (cell_lt e7)).trans e7, h1.to hb, h2.below hb, h3.below hb⟩

theorem svL {P Q : Nat → Prop} {w0 W : World} {g b off b' off' k n c d : Nat} {t t' : Int} {u1 u2 y1 y2 : Value} {T U : Tree} {ls hs : List Mem} (h : SV P Q w0 g b off b' off' k n c d t t' u1 u2 y1 y2 T U ls hs W) : PA P Q w0 g (.slice (some ⟨b, off, none⟩) n c) (.slice (some ⟨b', off', none⟩) n d) ls hs W ∧ TAt P 3 W (.int .i64 t) u1 u2 T ∧ TAt Q 3 W (.int .i64 t') y1 y2 U := h.2.2.2.2.2.2.2.2

theorem PairM.decl {ls hs : List Mem} (h : PairM ls hs) : declS hs hs.length = declS ls ls.length := by
  apply Nat.eq_of_testBit_eq
  intro k
  rw [declS_iff, declS_iff, h.len]
  rcases Nat.lt_or_ge k ls.length with hk | hk
  · have e1 := List.getElem?_eq_getElem hk
    have e2 := List.getElem?_eq_getElem (l := hs) (i := k) (by rw [h.len]; exact hk)
    rw [List.getD_eq_getElem?_getD, List.getD_eq_getElem?_getD, e1, e2]
    show (decide _ && (hs[k]'(by rw [h.len]; exact hk)).1) = (decide _ && (ls[k]).1)
    rw [h.dec k _ _ e1 e2]
  · rw [decide_eq_false (by omega)]; rfl

theorem PairM.sat {ls hs : List Mem} (hp : PairM ls hs) {k : Nat} {l h : Mem} (e1 : ls[k]? = some l) (e2 : hs[k]? = some h) (hd : l.1 = true) : ∀ s, s < 1024 → satB 3 h.2 ((s : Nat) : Int) = true → satB 3 l.2 (s : Int) = true := fun s hs h => by
  rw [sat_of hs] at h ⊢
  exact hp.imp k l _ e1 e2 hd _ h

theorem declS_memD {ms : List Mem} {k : Nat} (h : (declS ms ms.length).testBit k = true) : ∃ m, ms[k]? = some m ∧ m.1 = true := by
  have hk := declS_bit h
  rw [declS_iff, decide_eq_true hk, Bool.true_and, List.getD_eq_getElem?_getD, List.getElem?_eq_getElem hk] at h
  exact ⟨_, List.getElem?_eq_getElem hk, h⟩

end Go.Proofs.Ytnfdacfhhkahhaa

namespace Go.Proofs.Ytnfdacfhhkahhaa
set_option linter.unusedVariables false
set_option linter.unusedSimpArgs false
open Go.RowKit

def orI (x y : Int) : Int := if x = 0 then y else x

def cmpI (a b : Int) : Int := if a < b then -1 else if b < a then 1 else 0

/-- The place of a set in the order of sets. -/
def keyC (s : Nat) : Nat := popc s * 1024 + s

/-- What nodeset.Compare answers. -/
def cmpN (a b : Int) : Int := if setB a = setB b then (if setB a = true then orI (cmpI (popc a.toNat : Nat) (popc b.toNat : Nat)) (cmpI a b) else cmpI a b) else if setB b = true then -1 else 1

/-- The three keys of the order of sets. -/
def rkA (a : Int) : Int := if setB a = true then 1 else 0

def rkB (a : Int) : Int := if setB a = true then (popc a.toNat : Nat) else 0

theorem orI_lt (x y : Int) : (orI x y < 0) ↔ (x < 0 ∨ (x = 0 ∧ y < 0)) := by unfold orI; split <;> omega

theorem cmpI_lt (x y : Int) : (cmpI x y < 0) ↔ x < y := by unfold cmpI; split <;> (try split) <;> omega

theorem cmpI_eq (x y : Int) : (cmpI x y = 0) ↔ x = y := by unfold cmpI; split <;> (try split) <;> omega

theorem cmpN_lt (x y : Int) : (cmpN x y < 0) ↔ (rkA x < rkA y ∨ (rkA x = rkA y ∧ (rkB x < rkB y ∨ (rkB x = rkB y ∧ x < y)))) := by
  unfold cmpN rkA rkB
  cases setB x <;> cases setB y <;> simp [orI_lt, cmpI_lt, cmpI_eq]

theorem cmpN_cast (s t : Nat) (hs : s < 1024) (ht : t < 1024) : (cmpN s t < 0) ↔ keyC s < keyC t := by
  have h1 : setB (s : Int) = true := setB_iff.2 ⟨by omega, by omega⟩
  have h2 : setB (t : Int) = true := setB_iff.2 ⟨by omega, by omega⟩
  rw [cmpN_lt]
  unfold rkA rkB keyC
  rw [if_pos h1, if_pos h2, if_pos h1, if_pos h2]
  simp only [Int.toNat_natCast, Int.lt_irrefl, false_or, true_and, Int.ofNat_lt, Int.natCast_inj]
  omega

theorem dif_nat (a b : Nat) (ha : a < 1024) (hb : b < 1024) : bits .andNot .i64 (a : Int) (b : Int) = ((a ^^^ (a &&& b) : Nat) : Int) := by
  have hx : a ^^^ (a &&& b) < 2 ^ 63 := Nat.xor_lt_two_pow (by omega) (Nat.lt_of_le_of_lt Nat.and_le_left (by omega))
  show IntKind.i64.wrap ((BitVec.ofInt 64 (a : Int) &&& ~~~BitVec.ofInt 64 (b : Int)).toNat : Int) = _
  have e : (BitVec.ofInt 64 (a : Int) &&& ~~~BitVec.ofInt 64 (b : Int)).toNat = a ^^^ (a &&& b) := by
    apply Nat.eq_of_testBit_eq
    intro i
    rw [BitVec.toNat_and, BitVec.toNat_not, ofInt_i64 a (by omega), ofInt_i64 b (by omega), Nat.testBit_and, Nat.testBit_xor, Nat.testBit_and]
    have h2 : (2 : Nat) ^ 64 - 1 - b = 2 ^ 64 - (b + 1) := by omega
    rw [h2, Nat.testBit_two_pow_sub_succ (by omega)]
    rcases Nat.lt_or_ge i 64 with hi | hi
    · simp only [hi, decide_true, Bool.true_and]
      cases a.testBit i <;> cases b.testBit i <;> rfl
    · have h10 : (1024 : Nat) ≤ 2 ^ i := Nat.le_trans (by decide) (Nat.pow_le_pow_right (n := 2) (by omega) hi)
      rw [Nat.testBit_lt_two_pow (show a < 2 ^ i by omega)]; rfl
  rw [e, IntKind.wrap_i64]
  omega

/-- Is t a subset of s? -/
def subB (t s : Nat) : Bool := t &&& s == t

theorem xor_zero {a b : Nat} : a ^^^ b = 0 ↔ a = b := by
  constructor
  · intro h
    apply Nat.eq_of_testBit_eq
    intro i
    have := congrArg (fun x => x.testBit i) h
    simp only [Nat.testBit_xor, Nat.zero_testBit] at this
    revert this
    cases a.testBit i <;> cases b.testBit i <;> simp
  · rintro rfl; exact Nat.xor_self _

theorem andnot_sub (t s : Nat) (ht : t < 1024) (hs : s < 1024) : (bits .andNot .i64 (t : Int) (s : Int) == 0) = subB t s := by
  rw [dif_nat t s ht hs]
  unfold subB
  rw [Bool.eq_iff_iff]
  simp only [beq_iff_eq]
  rw [show ((0 : Int)) = ((0 : Nat) : Int) from rfl, Int.natCast_inj, xor_zero]
  exact eq_comm

end Go.Proofs.Ytnfdacfhhkahhaa

namespace Go.Proofs.Ytnfdacfhhkahhaa
end Go.Proofs.Ytnfdacfhhkahhaa

namespace Go.Proofs.Ytnfdacfhhkahhaa
set_option linter.unusedVariables false
set_option linter.unusedSimpArgs false
open Go.RowKit Go.Sort

theorem ltN_iff (x y : Int) : Go.Proofs.ltOf cmpN x y = true ↔ (rkA x < rkA y ∨ (rkA x = rkA y ∧ (rkB x < rkB y ∨ (rkB x = rkB y ∧ x < y)))) := by
  unfold Go.Proofs.ltOf
  rw [decide_eq_true_iff, cmpN_lt]

theorem ltN_not (x y : Int) : Go.Proofs.ltOf cmpN x y = false ↔ ¬ (rkA x < rkA y ∨ (rkA x = rkA y ∧ (rkB x < rkB y ∨ (rkB x = rkB y ∧ x < y)))) := by
  rw [← ltN_iff, Bool.not_eq_true]

theorem swoN : SWO (Go.Proofs.ltOf cmpN) where
  irrefl x := by rw [ltN_not]; omega
  trans x y z h1 h2 := by rw [ltN_iff] at *; omega
  ntrans x y z h1 h2 := by rw [ltN_not] at *; omega

theorem totN (x y : Int) (h1 : Go.Proofs.ltOf cmpN x y = false) (h2 : Go.Proofs.ltOf cmpN y x = false) : x = y := by rw [ltN_not] at *; omega

def zs (l : List Nat) : List Int := l.map (fun t : Nat => (t : Int))

theorem zs_len (l : List Nat) : (zs l).length = l.length := List.length_map _

theorem zs_get (l : List Nat) (k : Nat) : (zs l).getD k 0 = ((l.getD k 0 : Nat) : Int) := by
  unfold zs
  rw [List.getD_eq_getElem?_getD, List.getD_eq_getElem?_getD, List.getElem?_map]
  cases l[k]? <;> rfl

theorem zs_snoc (l : List Nat) (x : Nat) : zs (l ++ [x]) = zs l ++ [(x : Int)] := by unfold zs; rw [List.map_append]; rfl

theorem NodesAt.of_ownZ {W : World} {B : Nat} {v : Value} {l : List Nat} (h : W.ownsRow B 3 1 v l.length ((zs l).map (Value.int .i64))) : NodesAt (fun b => B ≤ b) W v (zs l) := NodesAt.of_own (by rw [zs_len]; exact h)

theorem own_snocZ {w : World} {v : Value} {B : Nat} {l : List Nat} {x : Nat} (h : w.ownsRow B 3 1 v (l.length + 1) ((zs l).map (Value.int .i64) ++ [.int .i64 (x : Int)])) : w.ownsRow B 3 1 v (l ++ [x]).length ((zs (l ++ [x])).map (Value.int .i64)) := by
  rw [zs_snoc, List.map_append, List.length_append]; exact h

/-- In the order of sets, each once. -/
def Asc (l : List Nat) : Prop := l.Pairwise (fun a b => keyC a < keyC b)

theorem keyC_inj {a b : Nat} (ha : a < 1024) (hb : b < 1024) (h : keyC a = keyC b) : a = b := by unfold keyC at h; omega

theorem sorted_nat (l : List Nat) (hl : ∀ t ∈ l, t < 1024) (hd : l.Nodup) :
    ∃ m : List Nat, (zs l).mergeSort (fun x y => !(Go.Proofs.ltOf cmpN) y x) = zs m ∧ m.Perm l ∧ Asc m := by
  have hp := List.mergeSort_perm (zs l) (fun x y => !(Go.Proofs.ltOf cmpN) y x)
  have hs := List.pairwise_mergeSort (le := fun x y => !(Go.Proofs.ltOf cmpN) y x)
    (fun a b c h1 h2 => by simp only [Bool.not_eq_true', ltN_not] at *; omega)
    (fun a b => by
      by_cases h : Go.Proofs.ltOf cmpN b a = true
      · have : Go.Proofs.ltOf cmpN a b = false := by rw [ltN_iff] at h; rw [ltN_not]; omega
        simp [this]
      · simp [Bool.eq_false_iff.2 h]) (zs l)
  generalize (zs l).mergeSort (fun x y => !(Go.Proofs.ltOf cmpN) y x) = ts at *
  have hz : ∀ x ∈ ts, ∃ t : Nat, x = (t : Int) ∧ t ∈ l := fun x hx => by
    have := hp.mem_iff.1 hx
    obtain ⟨t, ht, rfl⟩ := List.mem_map.1 this
    exact ⟨t, rfl, ht⟩
  have hts : ts = zs (ts.map Int.toNat) := by
    unfold zs
    rw [List.map_map]
    conv => lhs; rw [← List.map_id ts]
    exact List.map_congr_left (fun x hx => by obtain ⟨t, rfl, _⟩ := hz x hx; rfl)
  have hpm : (ts.map Int.toNat).Perm l := by
    have := hp.map Int.toNat
    refine this.trans (List.Perm.of_eq ?_)
    unfold zs
    rw [List.map_map]
    conv => rhs; rw [← List.map_id l]
    exact List.map_congr_left (fun x _ => rfl)
  refine ⟨ts.map Int.toNat, hts, hpm, ?_⟩
  have hnd : (ts.map Int.toNat).Nodup := hpm.nodup_iff.2 hd
  unfold Asc
  generalize hm : ts.map Int.toNat = m at *
  rw [hts] at hs
  have hs2 : m.Pairwise (fun a b : Nat => (!(Go.Proofs.ltOf cmpN) (b : Int) (a : Int)) = true) := List.pairwise_map.1 hs
  have h3 := (List.Pairwise.and hs2 (List.nodup_iff_pairwise_ne.1 hnd))
  refine List.Pairwise.imp_of_mem (fun {a b} ha hb h => ?_) h3
  obtain ⟨h1, h2⟩ := h
  have ha' := hl a (hpm.mem_iff.1 ha)
  have hb' := hl b (hpm.mem_iff.1 hb)
  have h4 : ¬ keyC b < keyC a := by
    rw [← cmpN_cast b a hb' ha']
    simp only [Bool.not_eq_true'] at h1
    unfold Go.Proofs.ltOf at h1
    exact of_decide_eq_false h1
  rcases Nat.lt_trichotomy (keyC a) (keyC b) with h | h | h
  · exact h
  · exact (h2 (keyC_inj ha' hb' h)).elim
  · exact (h4 h).elim

end Go.Proofs.Ytnfdacfhhkahhaa

namespace Go.Proofs.Ytnfdacfhhkahhaa
set_option linter.unusedVariables false
set_option linter.unusedSimpArgs false
open Go.RowKit

/-- The sets below 2^n of which p holds, in order. -/
def IsFound (n : Nat) (p : Nat → Bool) (l : List Nat) : Prop := Asc l ∧ (∀ t, t ∈ l ↔ (t < 2 ^ n ∧ p t = true)) ∧ l.length ≤ 1024

end Go.Proofs.Ytnfdacfhhkahhaa

namespace Go.Proofs.Ytnfdacfhhkahhaa
set_option linter.unusedVariables false
set_option linter.unusedSimpArgs false
open Go.RowKit

/-- The sets below 2^n of which p holds, in order. -/
def IsFind (n : Nat) (p : Nat → Bool) (l : List Nat) : Prop := Asc l ∧ (∀ t, t ∈ l ↔ (t < 2 ^ n ∧ p t = true)) ∧ l.length ≤ 1024

theorem subB_iff {t s : Nat} : subB t s = true ↔ t &&& s = t := by unfold subB; simp

theorem subB_refl (t : Nat) : subB t t = true := subB_iff.2 (Nat.and_self t)

theorem subB_trans {a b c : Nat} (h1 : subB a b = true) (h2 : subB b c = true) : subB a c = true := by
  rw [subB_iff] at *
  rw [← h1, Nat.and_assoc, h2]

theorem subB_bit {t s k : Nat} (h : subB t s = true) (hk : t.testBit k = true) : s.testBit k = true := by
  rw [subB_iff] at h
  rw [← h, Nat.testBit_and, Bool.and_eq_true] at hk
  exact hk.2

theorem subB_le {t s : Nat} (h : subB t s = true) : t ≤ s := by
  rw [subB_iff] at h
  rw [← h]; exact Nat.and_le_right

theorem subB_popc {t s : Nat} (h : subB t s = true) : popc t ≤ popc s := by
  unfold popc
  exact List.countP_mono_left (fun i _ hi => subB_bit h hi)

theorem subB_key {t s : Nat} (h : subB t s = true) (hne : t ≠ s) : keyC t < keyC s := by
  have h1 := subB_popc h
  have h2 := subB_le h
  unfold keyC
  omega

/-- The sets of which p holds and of which no proper subset is such a set, in order. -/
def IsLeast (p : Nat → Bool) (l : List Nat) : Prop := Asc l ∧ (∀ t, t ∈ l ↔ (t < 1024 ∧ p t = true ∧ ∀ y, p y = true → subB y t = true → y = t)) ∧ l.length ≤ 1024

theorem asc_nodup {l : List Nat} (h : Asc l) : l.Nodup := List.nodup_iff_pairwise_ne.2 (h.imp (fun h e => by rw [e] at h; exact Nat.lt_irrefl _ h))

theorem asc_get {l : List Nat} (h : Asc l) {i j : Nat} {a b : Nat} (ha : l[i]? = some a) (hb : l[j]? = some b) (hk : keyC a < keyC b) : i < j := by
  rcases Nat.lt_trichotomy i j with hij | hij | hij
  · exact hij
  · subst hij; rw [ha] at hb; cases hb; omega
  · obtain ⟨h1, h2⟩ := List.getElem?_eq_some_iff.1 ha
    obtain ⟨h3, h4⟩ := List.getElem?_eq_some_iff.1 hb
    have := List.pairwise_iff_getElem.1 h j i h3 h1 hij
    rw [h2, h4] at this
    omega

/-- Two lists in order with the same sets are one. -/
theorem asc_ext : ∀ {l m : List Nat}, Asc l → Asc m → (∀ t, t ∈ l ↔ t ∈ m) → l = m
  | [], [], _, _, _ => rfl
  | [], b :: m, _, _, h => by have := (h b).2 (by simp); cases this
  | a :: l, [], _, _, h => by have := (h a).1 (by simp); cases this
  | a :: l, b :: m, h1, h2, h => by
    obtain ⟨ha, hl⟩ := List.pairwise_cons.1 h1
    obtain ⟨hb, hm⟩ := List.pairwise_cons.1 h2
    have e : a = b := by
      rcases List.mem_cons.1 ((h a).1 (by simp)) with h3 | h3
      · exact h3
      · rcases List.mem_cons.1 ((h b).2 (by simp)) with h4 | h4
        · exact h4.symm
        · have := hb a h3; have := ha b h4; omega
    subst e
    rw [asc_ext hl hm (fun t => by
      have h3 := h t
      rw [List.mem_cons, List.mem_cons] at h3
      constructor
      · intro ht
        rcases h3.1 (.inr ht) with h4 | h4
        · subst h4; have := ha t ht; omega
        · exact h4
      · intro ht
        rcases h3.2 (.inr ht) with h4 | h4
        · subst h4; have := hb t ht; omega
        · exact h4)]

theorem isLeast_ext {p q : Nat → Bool} {l m : List Nat} (h1 : IsLeast p l) (h2 : IsLeast q m) (hpq : ∀ t, t < 1024 → p t = q t) (hp : ∀ t, p t = true → t < 1024) (hq : ∀ t, q t = true → t < 1024) : l = m := by
  have e : p = q := by
    funext t
    rcases Nat.lt_or_ge t 1024 with h | h
    · exact hpq t h
    · cases ha : p t <;> cases hb : q t
      · rfl
      · have := hq t hb; omega
      · have := hp t ha; omega
      · rfl
  subst e
  exact asc_ext h1.1 h2.1 (fun t => by rw [h1.2.1 t, h2.2.1 t])

/-- Below each set of which p holds there is a least one. -/
theorem least_below {p : Nat → Bool} : ∀ (n t : Nat), t ≤ n → p t = true → ∃ y, p y = true ∧ subB y t = true ∧ ∀ z, p z = true → subB z y = true → z = y := by
  intro n
  induction n with
  | zero =>
    intro t ht hp
    obtain rfl : t = 0 := by omega
    exact ⟨0, hp, subB_refl _, fun z _ hz => by have := subB_le hz; omega⟩
  | succ n ih =>
    intro t ht hp
    by_cases h : ∃ z, p z = true ∧ subB z t = true ∧ z ≠ t
    · obtain ⟨z, h1, h2, h3⟩ := h
      have := subB_le h2
      obtain ⟨y, y1, y2, y3⟩ := ih z (by omega) h1
      exact ⟨y, y1, subB_trans y2 h2, y3⟩
    · exact ⟨t, hp, subB_refl _, fun z hz hs => Classical.byContradiction (fun hne => h ⟨z, hz, hs, hne⟩)⟩

/-- One set further. -/
theorem least_step {p : Nat → Bool} {n : Nat} (hn : ∀ t, p t = true → t < 2 ^ n) {L : List Nat} (hL : IsFind n p L) (q : Nat → Bool) (hq : ∀ t, q t = true ↔ (p t = true ∧ ∀ y, p y = true → subB y t = true → y = t)) {k s : Nat} (hk : L[k]? = some s) :
    ((L.take k).filter q).any (fun t => subB t s) = !q s := by
  have hps := ((hL.2.1 s).1 (List.mem_of_getElem? hk)).2
  rw [Bool.eq_iff_iff]
  simp only [Bool.not_eq_true', List.any_eq_true]
  constructor
  · rintro ⟨t, ht, hts⟩
    obtain ⟨ht1, ht2⟩ := List.mem_filter.1 ht
    cases hqs : q s
    · rfl
    · have e := ((hq s).1 hqs).2 t ((hq t).1 ht2).1 hts
      subst e
      obtain ⟨i, hi⟩ := List.mem_iff_getElem?.1 ht1
      have hik : i < k := by
        have := (List.getElem?_eq_some_iff.1 hi).1
        simp at this; omega
      rw [List.getElem?_take_of_lt hik] at hi
      have h2 := List.getElem?_eq_some_iff.1 hi
      have h3 := List.getElem?_eq_some_iff.1 hk
      obtain ⟨h2, e2⟩ := h2
      obtain ⟨h3, e3⟩ := h3
      have := List.pairwise_iff_getElem.1 hL.1 i k h2 h3 hik
      rw [e2, e3] at this
      omega
  · intro hqs
    obtain ⟨y, y1, y2, y3⟩ := least_below (p := p) s s (Nat.le_refl _) hps
    have hne : y ≠ s := by
      rintro rfl
      have := (hq y).2 ⟨hps, fun z hz hs => y3 z hz hs⟩
      rw [hqs] at this; cases this
    have hy : y ∈ L := (hL.2.1 y).2 ⟨hn y y1, y1⟩
    obtain ⟨i, hi⟩ := List.mem_iff_getElem?.1 hy
    have hik := asc_get hL.1 hi hk (subB_key y2 hne)
    refine ⟨y, List.mem_filter.2 ⟨List.mem_iff_getElem?.2 ⟨i, by rw [List.getElem?_take_of_lt hik]; exact hi⟩, (hq y).2 ⟨y1, y3⟩⟩, y2⟩

theorem least_end {p : Nat → Bool} (hn : ∀ t, p t = true → t < 1024) {L : List Nat} (hL : IsFind 10 p L) (q : Nat → Bool) (hq : ∀ t, q t = true ↔ (p t = true ∧ ∀ y, p y = true → subB y t = true → y = t)) : IsLeast p (L.filter q) :=
  ⟨hL.1.filter _, fun t => by
    rw [List.mem_filter, hL.2.1 t, hq t]
    constructor
    · rintro ⟨⟨h1, _⟩, h2, h3⟩; exact ⟨h1, h2, h3⟩
    · rintro ⟨h1, h2, h3⟩; exact ⟨⟨h1, h2⟩, h2, h3⟩, Nat.le_trans (List.length_filter_le _ _) hL.2.2⟩

/-- The sets of a list of ints. -/
def pz (z : List Int) (t : Nat) : Bool := decide (t < 1024) && decide ((t : Int) ∈ z)

theorem pz_iff {z : List Int} {t : Nat} : pz z t = true ↔ t < 1024 ∧ (t : Int) ∈ z := by unfold pz; simp

theorem pz_lt {z : List Int} {t : Nat} (h : pz z t = true) : t < 1024 := (pz_iff.1 h).1

/-- Is it a least one? -/
noncomputable def leB (p : Nat → Bool) (t : Nat) : Bool := @decide (p t = true ∧ ∀ y, p y = true → subB y t = true → y = t) (Classical.propDecidable _)

theorem leB_iff (p : Nat → Bool) (t : Nat) : leB p t = true ↔ (p t = true ∧ ∀ y, p y = true → subB y t = true → y = t) := by unfold leB; exact @decide_eq_true_iff _ (Classical.propDecidable _)

end Go.Proofs.Ytnfdacfhhkahhaa

namespace Go.Proofs.Ytnfdacfhhkahhaa
set_option linter.unusedVariables false
set_option linter.unusedSimpArgs false
open Go.RowKit

def cmpR (s t : Nat) : Int := if keyC s < keyC t then -1 else if s = t then 0 else 1

theorem keyC_lt (s t : Nat) (hs : s < 1024) (ht : t < 1024) : keyC s < keyC t ↔ (popc s < popc t ∨ (popc s = popc t ∧ s < t)) := by
  unfold keyC
  omega

theorem cmpN_neg (s t : Nat) (hs : s < 1024) (ht : t < 1024) (h : keyC s < keyC t) : cmpN (s : Int) (t : Int) = -1 := by
  have h1 := (cmpN_cast s t hs ht).2 h
  have h2 : setB (s : Int) = true := setB_iff.2 ⟨by omega, by omega⟩
  have h3 : setB (t : Int) = true := setB_iff.2 ⟨by omega, by omega⟩
  revert h1
  unfold cmpN orI cmpI
  rw [h2, h3]
  simp only [if_true]
  split <;> (try split) <;> (try split) <;> (try split) <;> (try split) <;> omega

set_option maxHeartbeats 2000000 in
theorem rcompare_run (s t : Nat) (hs : s < 1024) (ht : t < 1024) (w : World) :
    Calls Try.prog 57 #[.int .i64 (s : Int), .int .i64 (t : Int)] w fun e w' => e = .returned (.int .i64 (cmpR s t)) ∧ w = w' := by
  have hsv := Lib.hid (show setB (s : Int) = true from setB_iff.2 ⟨by omega, by omega⟩)
  have htv := Lib.hid (show setB (t : Int) = true from setB_iff.2 ⟨by omega, by omega⟩)
  have hk := keyC_lt s t hs ht
  have HS := Lib.hid (fun W => rsetSize_run s hs W)
  have HT := Lib.hid (fun W => rsetSize_run t ht W)
  have hcr : cmpR s t = if keyC s < keyC t then -1 else if s = t then 0 else 1 := rfl
  have hps := popc_le s
  have hpt := popc_le t
  generalize cmpR s t = r at *
  generalize keyC s = ks at *
  generalize keyC t = kt at *
  have hst : s = t → popc s = popc t := fun h => by rw [h]
  generalize hpS : popc s = ps at *
  generalize hpT : popc t = pt at *
  clear hpS hpT
  rcases Nat.lt_trichotomy ps pt with h | h | h
  · obtain rfl : r = -1 := by rw [hcr, if_pos (hk.2 (.inl h))]
    clear hk hcr
    go_enter Try.func57, Try.ntmps57
    go_wp2_with fail
    refine (rsetValid_run _ _).mono ?_
    rintro e w2 ⟨rfl, rfl⟩
    rw [hsv.out]
    go_wp2_with fail
    refine (HS.out _).mono ?_
    rintro e w2 ⟨rfl, rfl⟩
    go_wp2_with fail
    refine (rsetValid_run _ _).mono ?_
    rintro e w2 ⟨rfl, rfl⟩
    rw [htv.out]
    go_wp2_with fail
    refine (HT.out _).mono ?_
    rintro e w2 ⟨rfl, rfl⟩
    go_wp2_with fail
    go_ret
    exact ⟨rfl, rfl⟩
  · subst h
    rcases Nat.lt_trichotomy s t with h1 | h1 | h1
    · obtain rfl : r = -1 := by rw [hcr, if_pos (hk.2 (.inr ⟨rfl, h1⟩))]
      clear hk hcr
      go_enter Try.func57, Try.ntmps57
      go_wp2_with fail
      refine (rsetValid_run _ _).mono ?_
      rintro e w2 ⟨rfl, rfl⟩
      rw [hsv.out]
      go_wp2_with fail
      refine (HS.out _).mono ?_
      rintro e w2 ⟨rfl, rfl⟩
      go_wp2_with fail
      refine (rsetValid_run _ _).mono ?_
      rintro e w2 ⟨rfl, rfl⟩
      rw [htv.out]
      go_wp2_with fail
      refine (HT.out _).mono ?_
      rintro e w2 ⟨rfl, rfl⟩
      go_wp2_with fail
      go_ret
      exact ⟨rfl, rfl⟩
    · obtain rfl : r = 0 := by rw [hcr, if_neg (fun h => by have := hk.1 h; omega), if_pos h1]
      clear hk hcr
      subst h1
      go_enter Try.func57, Try.ntmps57
      go_wp2_with fail
      refine (rsetValid_run _ _).mono ?_
      rintro e w2 ⟨rfl, rfl⟩
      rw [hsv.out]
      go_wp2_with fail
      refine (HS.out _).mono ?_
      rintro e w2 ⟨rfl, rfl⟩
      go_wp2_with fail
      refine (rsetValid_run _ _).mono ?_
      rintro e w2 ⟨rfl, rfl⟩
      rw [htv.out]
      go_wp2_with fail
      refine (HT.out _).mono ?_
      rintro e w2 ⟨rfl, rfl⟩
      go_wp2_with fail
      go_ret
      exact ⟨rfl, rfl⟩
    · obtain rfl : r = 1 := by rw [hcr, if_neg (fun h => by have := hk.1 h; omega), if_neg (by omega)]
      clear hk hcr
      go_enter Try.func57, Try.ntmps57
      go_wp2_with fail
      refine (rsetValid_run _ _).mono ?_
      rintro e w2 ⟨rfl, rfl⟩
      rw [hsv.out]
      go_wp2_with fail
      refine (HS.out _).mono ?_
      rintro e w2 ⟨rfl, rfl⟩
      go_wp2_with fail
      refine (rsetValid_run _ _).mono ?_
      rintro e w2 ⟨rfl, rfl⟩
      rw [htv.out]
      go_wp2_with fail
      refine (HT.out _).mono ?_
      rintro e w2 ⟨rfl, rfl⟩
      go_wp2_with fail
      go_ret
      exact ⟨rfl, rfl⟩
  · obtain rfl : r = 1 := by rw [hcr, if_neg (fun h1 => by have := hk.1 h1; omega), if_neg (fun h1 => by have := hst h1; omega)]
    clear hk hcr
    go_enter Try.func57, Try.ntmps57
    go_wp2_with fail
    refine (rsetValid_run _ _).mono ?_
    rintro e w2 ⟨rfl, rfl⟩
    rw [hsv.out]
    go_wp2_with fail
    refine (HS.out _).mono ?_
    rintro e w2 ⟨rfl, rfl⟩
    go_wp2_with fail
    refine (rsetValid_run _ _).mono ?_
    rintro e w2 ⟨rfl, rfl⟩
    rw [htv.out]
    go_wp2_with fail
    refine (HT.out _).mono ?_
    rintro e w2 ⟨rfl, rfl⟩
    go_wp2_with fail
    go_ret
    exact ⟨rfl, rfl⟩

end Go.Proofs.Ytnfdacfhhkahhaa

namespace Go.Proofs.Ytnfdacfhhkahhaa
end Go.Proofs.Ytnfdacfhhkahhaa

namespace Go.Proofs.Ytnfdacfhhkahhaa
set_option linter.unusedVariables false
set_option linter.unusedSimpArgs false
open Go.RowKit

set_option maxRecDepth 100000 in
theorem bl_fact (s : Nat) (hs : s < 1024) : s < 2 ^ Lib.bitLen s ∧ Lib.bitLen s ≤ 10 := by
  have all : ∀ s : Fin 1024, s.val < 2 ^ Lib.bitLen s.val ∧ Lib.bitLen s.val ≤ 10 := by decide +kernel
  exact all ⟨s, hs⟩

theorem sub_bits {t s : Nat} : subB t s = true ↔ ∀ k, t.testBit k = true → s.testBit k = true := by
  constructor
  · exact fun h k hk => subB_bit h hk
  · intro h
    rw [subB_iff]
    apply Nat.eq_of_testBit_eq
    intro k
    rw [Nat.testBit_and]
    cases hk : t.testBit k
    · rfl
    · rw [h k hk]; rfl

theorem sub_add {n t s : Nat} (ht : t < 2 ^ n) : subB (2 ^ n + t) s = (s.testBit n && subB t s) := by
  have e : ∀ k, (2 ^ n + t).testBit k = (decide (n = k) || t.testBit k) := fun k => by
    have h1 := Nat.two_pow_add_eq_or_of_lt ht 1
    rw [Nat.mul_one] at h1
    rw [h1, Nat.testBit_or, Nat.testBit_two_pow]
  have htn : t.testBit n = false := Nat.testBit_lt_two_pow ht
  rw [Bool.eq_iff_iff, Bool.and_eq_true, sub_bits, sub_bits]
  constructor
  · intro h
    exact ⟨h n (by rw [e]; simp), fun k hk => h k (by rw [e, hk]; simp)⟩
  · rintro ⟨h1, h2⟩ k hk
    rw [e, Bool.or_eq_true, decide_eq_true_iff] at hk
    rcases hk with rfl | hk
    · exact h1
    · exact h2 k hk

theorem sub_cnt (s : Nat) : ∀ n, (List.range (2 ^ n)).countP (fun t => subB t s) = 2 ^ popk s n
  | 0 => by
    have : subB 0 s = true := by unfold subB; simp
    simp [List.range_succ, this, popk]
  | n + 1 => by
    have e : 2 ^ (n + 1) = 2 ^ n + 2 ^ n := by omega
    have ih := sub_cnt s n
    rw [e, List.range_add, List.countP_append, List.countP_map, ih]
    have hb : popk s (n + 1) = popk s n + (if s.testBit n then 1 else 0) := by
      unfold popk
      rw [List.range_succ, List.countP_append, List.countP_singleton]
    cases hs : s.testBit n
    · have h0 : (List.range (2 ^ n)).countP ((fun t => subB t s) ∘ fun x => 2 ^ n + x) = 0 := by
        rw [List.countP_eq_zero]
        intro t ht
        have := sub_add (s := s) (List.mem_range.1 ht)
        simp [this, hs]
      rw [h0, hb, hs]; simp
    · have h0 : (List.range (2 ^ n)).countP ((fun t => subB t s) ∘ fun x => 2 ^ n + x) = (List.range (2 ^ n)).countP (fun t => subB t s) := by
        apply List.countP_congr
        intro t ht
        have := sub_add (s := s) (List.mem_range.1 ht)
        simp [this, hs]
      rw [h0, hb, hs, ih]
      simp [Nat.pow_succ]; omega

/-- What the law asks of the list of subsets. -/
theorem subs_law {s n : Nat} {l : List Nat} (hs : s < 1024) (hn : n ≤ 10) (hsn : s < 2 ^ n) (h : IsFound n (fun t => subB t s) l) :
    l.length = 2 ^ popc s ∧ l[0]? = some 0 ∧ l[l.length - 1]? = some s ∧ (∀ x ∈ l, x < 1024 ∧ x &&& s = x) ∧ (∀ i x y : Nat, l[i]? = some x → l[i + 1]? = some y → cmpR x y = -1) := by
  have h10 : 2 ^ n ≤ 2 ^ 10 := Nat.pow_le_pow_right (by omega) hn
  have hlt : ∀ x ∈ l, x < 1024 ∧ subB x s = true := fun x hx => by
    have h1 := (h.2.1 x).1 hx
    exact ⟨by omega, h1.2⟩
  have hp := List.pairwise_iff_getElem.1 h.1
  have hlen : l.length = 2 ^ popc s := by
    have hperm : l.Perm ((List.range (2 ^ 10)).filter (fun t => subB t s)) := by
      rw [List.perm_ext_iff_of_nodup (asc_nodup h.1) (List.nodup_iff_pairwise_ne.2 ((List.nodup_iff_pairwise_ne.1 List.nodup_range).filter _))]
      intro t
      rw [h.2.1 t, List.mem_filter, List.mem_range]
      constructor
      · rintro ⟨h1, h2⟩; exact ⟨by omega, h2⟩
      · rintro ⟨h1, h2⟩; exact ⟨Nat.lt_of_le_of_lt (subB_le h2) hsn, h2⟩
    rw [hperm.length_eq, ← List.countP_eq_length_filter, sub_cnt]
    rfl
  have h0 : 0 < l.length := by rw [hlen]; exact Nat.one_le_two_pow
  refine ⟨hlen, ?_, ?_, fun x hx => ⟨(hlt x hx).1, subB_iff.1 (hlt x hx).2⟩, fun i x y hx hy => ?_⟩
  · have hm : 0 ∈ l := (h.2.1 0).2 ⟨Nat.one_le_two_pow, by unfold subB; simp⟩
    obtain ⟨i, hi, e⟩ := List.mem_iff_getElem.1 hm
    rcases Nat.eq_zero_or_pos i with rfl | hpos
    · rw [List.getElem?_eq_getElem hi, e]
    · have h1 := hp 0 i h0 hi hpos
      rw [e] at h1
      have : keyC 0 = 0 := by decide +kernel
      omega
  · have hm : s ∈ l := (h.2.1 s).2 ⟨hsn, subB_refl s⟩
    obtain ⟨i, hi, e⟩ := List.mem_iff_getElem.1 hm
    have hl1 : l.length - 1 < l.length := by omega
    rcases Nat.lt_or_ge i (l.length - 1) with h1 | h1
    · have h2 := hp i (l.length - 1) hi hl1 h1
      rw [e] at h2
      have h3 := (hlt _ (List.getElem_mem hl1)).2
      by_cases hne : l[l.length - 1] = s
      · rw [hne] at h2; omega
      · have := subB_key h3 hne; omega
    · obtain rfl : i = l.length - 1 := by omega
      rw [List.getElem?_eq_getElem hi, e]
  · obtain ⟨hi, e1⟩ := List.getElem?_eq_some_iff.1 hx
    obtain ⟨hj, e2⟩ := List.getElem?_eq_some_iff.1 hy
    have h1 := hp i (i + 1) hi hj (by omega)
    rw [e1, e2] at h1
    unfold cmpR
    rw [if_pos h1]

theorem own_low {W : World} {B B' : Nat} {v : Value} {n : Nat} {vs : List Value} (h : W.ownsRow B 3 1 v n vs) (hB : B' ≤ B) : W.ownsRow B' 3 1 v n vs := by
  refine ⟨h.1, ?_⟩
  rcases h.2 with h2 | ⟨gg, cap, cur, e1, e2, e3, e4⟩
  · exact .inl h2
  · exact .inr ⟨gg, cap, cur, e1, Nat.le_trans hB e2, e3, e4⟩

end Go.Proofs.Ytnfdacfhhkahhaa

namespace Go.Proofs.Ytnfdacfhhkahhaa
set_option linter.unusedVariables false
set_option linter.unusedSimpArgs false
open Go.RowKit

def GoodB (s : Nat) (ls hs : List Mem) (b : Nat) : Prop := Sub s b ∧ AvT hs b ∧ InT (D3.delM b ls)

def AllOf (s : Nat) (ls hs : List Mem) (l : List Nat) (k : Nat) (L : List Nat) : Prop := L.Sublist (l.take k) ∧ ∀ b, b ∈ L ↔ b ∈ l.take k ∧ GoodB s ls hs b

theorem AllOf.zero (s : Nat) (ls hs : List Mem) (l : List Nat) : AllOf s ls hs l 0 [] := ⟨by simp, fun b => by simp⟩

theorem AllOf.skip {s : Nat} {ls hs : List Mem} {l L : List Nat} {k b : Nat} (h : AllOf s ls hs l k L) (hb : l[k]? = some b) (hn : ¬ GoodB s ls hs b) : AllOf s ls hs l (k + 1) L := by
  unfold AllOf
  rw [List.take_add_one, hb]
  refine ⟨h.1.trans (List.sublist_append_left _ _), fun x => ?_⟩
  rw [h.2 x, List.mem_append]
  constructor
  · rintro ⟨h1, h2⟩; exact ⟨.inl h1, h2⟩
  · rintro ⟨h1 | h1, h2⟩
    · exact ⟨h1, h2⟩
    · have : x = b := by simpa using h1
      rw [this] at h2; exact absurd h2 hn

theorem AllOf.add {s : Nat} {ls hs : List Mem} {l L : List Nat} {k b : Nat} (h : AllOf s ls hs l k L) (hb : l[k]? = some b) (hn : GoodB s ls hs b) : AllOf s ls hs l (k + 1) (L ++ [b]) := by
  unfold AllOf
  rw [List.take_add_one, hb]
  refine ⟨List.Sublist.append h.1 (by simp), fun x => ?_⟩
  rw [List.mem_append, h.2 x, List.mem_append]
  constructor
  · rintro (⟨h1, h2⟩ | h1)
    · exact ⟨.inl h1, h2⟩
    · have : x = b := by simpa using h1
      rw [this]; exact ⟨.inr (by simp), hn⟩
  · rintro ⟨h1 | h1, h2⟩
    · exact .inl ⟨h1, h2⟩
    · exact .inr (by simpa using h1)

/-- What All returns. -/
def AllIs (s : Nat) (ls hs : List Mem) (L : List Nat) : Prop := Asc L ∧ L.length ≤ 1024 ∧ ∀ b, b ∈ L ↔ b < 2 ^ ls.length ∧ GoodB s ls hs b

theorem AllOf.done {s n n' : Nat} {ls hs : List Mem} {l L : List Nat} (hn : ls.length = n) (hl : s < 2 ^ n) (hn' : 2 ^ n - 1 < 2 ^ n') (hf : IsFound n' (fun t => subB t (2 ^ n - 1)) l) (h : AllOf s ls hs l l.length L) : AllIs s ls hs L := by
  obtain ⟨h1, h2⟩ := h
  rw [List.take_length] at h1 h2
  refine ⟨hf.1.sublist h1, Nat.le_trans h1.length_le hf.2.2, fun b => ?_⟩
  rw [h2 b, hf.2.1 b, hn]
  constructor
  · rintro ⟨⟨_, h3⟩, h4⟩
    refine ⟨Nat.lt_pow_two_of_testBit _ (fun k hk => ?_), h4⟩
    cases hb : b.testBit k
    · rfl
    · have h5 := sub_bits.1 h3 k hb
      rw [Nat.testBit_two_pow_sub_one, decide_eq_true_iff] at h5
      omega
  · rintro ⟨h3, h4⟩
    refine ⟨⟨by omega, sub_bits.2 (fun k hk => ?_)⟩, h4⟩
    rw [Nat.testBit_two_pow_sub_one, decide_eq_true (lt_bit h3 hk)]

theorem minS_zero_iff {s b : Nat} : minS s b = 0 ↔ Sub s b := by
  constructor
  · intro h k hk
    have := minS_bit s b k
    rw [h, Nat.zero_testBit, hk] at this
    cases hb : b.testBit k
    · rw [hb] at this; cases this
    · rfl
  · intro h
    apply Nat.eq_of_testBit_eq
    intro k
    rw [minS_bit, Nat.zero_testBit]
    cases hk : s.testBit k
    · rfl
    · rw [h k hk]; rfl

theorem zs_getD {l : List Nat} {k b : Nat} (h : l[k]? = some b) : (zs l).getD k 0 = (b : Int) := by
  unfold zs
  rw [List.getD_eq_getElem?_getD, List.getElem?_map, h]; rfl

end Go.Proofs.Ytnfdacfhhkahhaa

namespace Go.Proofs.Ytnfdacfhhkahhaa
set_option linter.unusedVariables false
set_option linter.unusedSimpArgs false
open Go.RowKit

set_option maxRecDepth 100000 in
set_option maxHeartbeats 400000 in
theorem rdmembers_run (A : Option Addr) (n c : Nat) (hn : n ≤ 10) (w : World) : Calls Try.prog 85 #[.agg #[.slice A n c]] w fun e w' => e = .returned (.int .i64 ((2 ^ n - 1 : Nat) : Int)) ∧ Below w.heap.size w w' := by
  have hp := pow11 n (by omega)
  have hp1 : 1 ≤ 2 ^ n := Nat.one_le_pow _ _ (by omega)
  have hp2 : 2 ^ n ≤ 2 ^ 10 := Nat.pow_le_pow_right (by omega) hn
  obtain ⟨N, hN⟩ : ∃ N, 2 ^ n = N := ⟨_, rfl⟩
  rw [hN] at hp hp1 hp2 ⊢
  clear hN
  have hw1 : wrap64 ((N : Int) - 1) = (N : Int) - 1 := by unfold wrap64; omega
  have hn64 : (n : Int) < 64 := by omega
  have HE := Lib.hid (show ((N - 1 : Nat) : Int) = (N : Int) - 1 by omega)
  go_enter Try.func85, Try.ntmps85
  go_wp2_with fail
  go_ret
  exact ⟨by rw [HE.out]; rfl, balloc (bref _) _⟩

set_option maxRecDepth 100000 in
set_option maxHeartbeats 2000000 in
theorem rdset_run (P : Nat → Prop) (ms : List Mem) (v : Value) (s : Nat) (w : World) (hl : ms.length ≤ 10) (hs : s < 2 ^ ms.length) (h : MemsAt P 3 w v ms) (hok : D3.MemsOk ms.length ms) :
    Calls Try.prog 80 #[.agg #[v], .int .i64 (s : Int)] w fun e w' => e = .returned (.int .i64 0) ∧ Below w.heap.size w w' := by
  obtain ⟨A, c, rfl⟩ := h.slice
  have hb1 : Below w.heap.size w (w.alloc (.cells #[.slice A ms.length c] 27)) := balloc (bref w) _
  have k0 : (w.alloc (.cells #[.slice A ms.length c] 27)).heap[w.heap.size]? = some (.cells #[.slice A ms.length c] 27 (0, 0)) := alloc_at rfl
  have hp2 : 2 ^ ms.length ≤ 2 ^ 10 := Nat.pow_le_pow_right (by omega) hl
  have hs10 : s < 1024 := by omega
  have HMR := Lib.hid (fun W => rdmembers_run A ms.length c hl W)
  obtain ⟨M, hM⟩ : ∃ M, 2 ^ ms.length - 1 = M := ⟨_, rfl⟩
  have hsM : ¬ (M : Int) < (s : Int) := by omega
  rw [hM] at HMR
  clear hM
  have hs0 : ¬ (s : Int) < 0 := by omega
  have H := Lib.hid (h.below hb1)
  have HB := Lib.hid hb1
  have K0 := Lib.hid k0
  have HOK := Lib.hid hok
  have HS := Lib.hid hs
  clear h hb1 k0 hp2 hs hok
  go_enter Try.func80, Try.ntmps80
  go_upto_region 1 with fail
  generalize w.alloc (.cells #[.slice A ms.length c] 27) = W1 at *
  generalize hg : w.heap.size = g at *
  have HG := Lib.hid hg
  clear hg
  have c0 : W1.cell? ⟨g, 0, none⟩ = some (.slice A ms.length c) := cell_of_row _ _ 0 _ _ (0, 0) K0.out
  have HBw := Lib.hid (show Below w.heap.size w W1 by rw [HG.out]; exact HB.out)
  go_wp2_with fail
  refine (HMR.out _).mono ?_
  rintro e W2x ⟨rfl, hbx⟩
  have c1 := (hbx.cell (cell_lt c0)).trans c0
  have HB1 := Lib.hid (bstep HBw.out hbx)
  have H1 := Lib.hid (H.out.below hbx)
  clear hbx c0
  go_wp2_with fail
  go_ret
  exact ⟨rfl, HB1.out⟩

set_option maxRecDepth 100000 in
set_option maxHeartbeats 2000000 in
theorem rdints_run (P : Nat → Prop) (ms : List Mem) (v : Value) (s : Nat) (w : World) (hl : ms.length ≤ 10) (hs : s < 2 ^ ms.length) (h : MemsAt P 3 w v ms) (hok : D3.MemsOk ms.length ms) :
    Calls Try.prog 66 #[.agg #[v], .int .i64 (s : Int)] w fun e w' => (∃ x : Bool, e = .returned (.tuple #[.bool x, .int .i64 0]) ∧ (x = true ↔ InT (D3.delM s ms))) ∧ Below w.heap.size w w' := by
  obtain ⟨A, c, rfl⟩ := h.slice
  have hb1 : Below w.heap.size w (w.alloc (.cells #[.slice A ms.length c] 27)) := balloc (bref w) _
  have k0 : (w.alloc (.cells #[.slice A ms.length c] 27)).heap[w.heap.size]? = some (.cells #[.slice A ms.length c] 27 (0, 0)) := alloc_at rfl
  have hp2 : 2 ^ ms.length ≤ 2 ^ 10 := Nat.pow_le_pow_right (by omega) hl
  have hs10 : s < 1024 := by omega
  have H := Lib.hid (h.below hb1)
  have HB := Lib.hid hb1
  have K0 := Lib.hid k0
  have HOK := Lib.hid hok
  have HS := Lib.hid hs
  clear h hb1 k0 hp2 hs hok
  go_enter Try.func66, Try.ntmps66
  go_upto_region 1 with fail
  generalize w.alloc (.cells #[.slice A ms.length c] 27) = W1 at *
  generalize hg : w.heap.size = g at *
  have HG := Lib.hid hg
  clear hg
  have c0 : W1.cell? ⟨g, 0, none⟩ = some (.slice A ms.length c) := cell_of_row _ _ 0 _ _ (0, 0) K0.out
  have HBw := Lib.hid (show Below w.heap.size w W1 by rw [HG.out]; exact HB.out)
  go_wp2_with fail
  refine (D3.rcvalid_run P ms _ _ hl H.out HOK.out).mono ?_
  rintro e W2x ⟨rfl, hbx⟩
  have c1 := (hbx.cell (cell_lt c0)).trans c0
  have HB1 := Lib.hid (bstep HBw.out hbx)
  have H1 := Lib.hid (H.out.below hbx)
  clear hbx c0
  go_wp2_with fail
  refine (rdset_run P ms _ s _ hl HS.out H1.out HOK.out).mono ?_
  rintro e W3x ⟨rfl, hbx⟩
  have c2 := (hbx.cell (cell_lt c1)).trans c1
  have HB2 := Lib.hid (bstep HB1.out hbx)
  have H2 := Lib.hid (H1.out.below hbx)
  clear hbx c1
  go_wp2_with fail
  refine (D3.rdelete_run P ms _ s _ hl hs10 H2.out HOK.out).mono ?_
  rintro e Wd ⟨vd, rfl, hmd, hbd⟩
  have HMD := Lib.hid hmd
  have HBD := Lib.hid (bstep HB2.out hbd)
  clear hbd hmd c2
  go_wp2_with fail
  refine (D3.rholds_run _ (D3.delM s ms) _ _ (by rw [D3.delM_len]; exact hl) HMD.out (D3.delM_ok HOK.out)).mono ?_
  rintro e We ⟨⟨x, rfl, hx⟩, hbe⟩
  have HX := Lib.hid (show x = true ↔ InT (D3.delM s ms) from hx)
  have HBE := Lib.hid (bstep HBD.out hbe)
  clear hbe hx
  go_wp2_with fail
  go_ret2
  exact ⟨⟨x, rfl, HX.out⟩, HBE.out⟩

set_option maxRecDepth 100000 in
set_option maxHeartbeats 2000000 in
theorem rdavail_run (P : Nat → Prop) (ms : List Mem) (v : Value) (s : Nat) (w : World) (hl : ms.length ≤ 10) (hs : s < 2 ^ ms.length) (h : MemsAt P 3 w v ms) (hok : D3.MemsOk ms.length ms) :
    Calls Try.prog 99 #[.agg #[v], .int .i64 (s : Int)] w fun e w' => (∃ x : Bool, e = .returned (.tuple #[.bool x, .int .i64 0]) ∧ (x = true ↔ AvT ms s)) ∧ Below w.heap.size w w' := by
  obtain ⟨A, c, rfl⟩ := h.slice
  have hb1 : Below w.heap.size w (w.alloc (.cells #[.slice A ms.length c] 27)) := balloc (bref w) _
  have k0 : (w.alloc (.cells #[.slice A ms.length c] 27)).heap[w.heap.size]? = some (.cells #[.slice A ms.length c] 27 (0, 0)) := alloc_at rfl
  have hp2 : 2 ^ ms.length ≤ 2 ^ 10 := Nat.pow_le_pow_right (by omega) hl
  have hs10 : s < 1024 := by omega
  have HMR := Lib.hid (fun W => rdmembers_run A ms.length c hl W)
  have hO := outS_sub ms.length s hl (by omega)
  obtain ⟨M, hM⟩ : ∃ M, 2 ^ ms.length - 1 = M := ⟨_, rfl⟩
  rw [hM] at hO HMR
  clear hM
  have HR := Lib.hid (outS_lt ms.length s hl)
  have HAV := Lib.hid (show AvT ms s ↔ (outS ms.length s = 0 ∨ IsQ 3 ms (outS ms.length s)) from Iff.rfl)
  generalize outS ms.length s = r at hO HR HAV
  have H := Lib.hid (h.below hb1)
  have HB := Lib.hid hb1
  have K0 := Lib.hid k0
  have HOK := Lib.hid hok
  have HS := Lib.hid hs
  clear h hb1 k0 hp2 hs hok
  go_enter Try.func99, Try.ntmps99
  go_upto_region 1 with fail
  generalize w.alloc (.cells #[.slice A ms.length c] 27) = W1 at *
  generalize hg : w.heap.size = g at *
  have HG := Lib.hid hg
  clear hg
  have c0 : W1.cell? ⟨g, 0, none⟩ = some (.slice A ms.length c) := cell_of_row _ _ 0 _ _ (0, 0) K0.out
  have HBw := Lib.hid (show Below w.heap.size w W1 by rw [HG.out]; exact HB.out)
  go_wp2_with fail
  refine (D3.rcvalid_run P ms _ _ hl H.out HOK.out).mono ?_
  rintro e W2x ⟨rfl, hbx⟩
  have c1 := (hbx.cell (cell_lt c0)).trans c0
  have HB1 := Lib.hid (bstep HBw.out hbx)
  have H1 := Lib.hid (H.out.below hbx)
  clear hbx c0
  go_wp2_with fail
  refine (rdset_run P ms _ s _ hl HS.out H1.out HOK.out).mono ?_
  rintro e W3x ⟨rfl, hbx⟩
  have c2 := (hbx.cell (cell_lt c1)).trans c1
  have HB2 := Lib.hid (bstep HB1.out hbx)
  have H2 := Lib.hid (H1.out.below hbx)
  clear hbx c1
  go_wp2_with fail
  refine (HMR.out _).mono ?_
  rintro e W4x ⟨rfl, hbx⟩
  have c3 := (hbx.cell (cell_lt c2)).trans c2
  have HB3 := Lib.hid (bstep HB2.out hbx)
  have H3 := Lib.hid (H2.out.below hbx)
  clear hbx c2
  by_cases hr0 : r = 0
  · subst hr0
    go_wp2_with fail
    go_ret2
    exact ⟨⟨true, rfl, iff_of_true rfl (HAV.out.2 (.inl (by first | rfl | trivial)))⟩, HB3.out⟩
  · have hr0i : ¬ (r : Int) = 0 := by omega
    go_wp2_with fail
    refine (rquorum_run P 3 ms _ r _ hl HR.out H3.out).mono ?_
    rintro e Wq ⟨b, rfl, hq, hbq⟩
    have HQ := Lib.hid hq
    have HBQ := Lib.hid (bstep HB3.out hbq)
    clear hbq hq
    go_wp2_with fail
    go_ret2
    exact ⟨⟨((r : Int) == 0 || b), rfl, (show ((r : Int) == 0 || b) = true ↔ b = true by rw [show ((r : Int) == 0) = false by simpa using hr0]; simp).trans <| HQ.out.trans (Iff.trans ⟨fun h => Or.inr h, fun h => h.resolve_left hr0⟩ HAV.out.symm)⟩, HBQ.out⟩

set_option maxRecDepth 100000 in
set_option maxHeartbeats 8000000 in
theorem rdvalid_run (P Q : Nat → Prop) (ls hs : List Mem) (vl vh : Value) (w : World) (hl : ls.length ≤ 7) (h1 : MemsAt P 3 w vl ls) (h2 : MemsAt Q 3 w vh hs) (hp : PairM ls hs) :
    Calls Try.prog 79 #[.agg #[vl], .agg #[vh]] w fun e w' => e = .returned (.int .i64 0) ∧ Below w.heap.size w w' := by
  obtain ⟨A, c, rfl⟩ := h1.slice
  obtain ⟨B, d, rfl⟩ := h2.slice
  have hlen := hp.len
  have hokl := hp.okl
  have hokh := hp.okh
  have hdec := hp.decl
  have HDL := Lib.hid (fun W (h : MemsAt P 3 W (.slice A ls.length c) ls) => rdeclared_run P 3 ls _ W (by omega) h)
  have HDH := Lib.hid (fun W (h : MemsAt Q 3 W (.slice B hs.length d) hs) => rdeclared_run Q 3 hs _ W (by omega) h)
  rw [hdec] at HDH
  rw [hlen] at h2 HDH hokh ⊢
  obtain ⟨n, hn⟩ : ∃ n, ls.length = n := ⟨_, rfl⟩
  have HN := Lib.hid hn
  have HNH := Lib.hid hlen
  rw [hn] at HNH
  have HD := Lib.hid (fun k (h : (declS ls ls.length).testBit k = true) => declS_bit h)
  have HDM := Lib.hid (fun k (h : (declS ls ls.length).testBit k = true) => declS_memD h)
  have hDl : declS ls ls.length < 1024 := declS_lt ls _ (by omega)
  generalize declS ls ls.length = D at HDL HDH hDl HD HDM
  rw [hn] at h1 h2 HDL HDH hokl hokh hl HD ⊢
  have HP := Lib.hid hp
  have HOL := Lib.hid hokl
  have HOH := Lib.hid hokh
  have HPA := Lib.hid (PA.new h1 h2)
  clear h1 h2 hp hokl hokh hn hdec hlen
  go_enter Try.func79, Try.ntmps79
  go_upto_region 1 with fail
  generalize ((w.alloc (.cells #[.slice A n c] 27)).alloc (.cells #[.slice B n d] 27)) = W1 at *
  generalize w.heap.size = g at HPA ⊢
  have l0 := HPA.out.cs.1
  have h0 := HPA.out.cs.2.1
  go_wp2_with fail
  refine (D3.rcvalid_run P ls _ _ (by rw [HN.out]; omega) HPA.out.ml (by rw [HN.out]; exact HOL.out)).mono ?_
  rintro e W1x ⟨rfl, hbx⟩
  have HPA1 := Lib.hid (HPA.out.to hbx)
  clear hbx l0 h0
  have l1 := HPA1.out.cs.1
  have h1 := HPA1.out.cs.2.1
  go_wp2_with fail
  refine (D3.rcvalid_run Q hs _ _ (by rw [HNH.out]; omega) HPA1.out.mh (by rw [HNH.out]; exact HOH.out)).mono ?_
  rintro e W2x ⟨rfl, hbx⟩
  have HPA2 := Lib.hid (HPA1.out.to hbx)
  clear hbx l1 h1
  have l2 := HPA2.out.cs.1
  have h2 := HPA2.out.cs.2.1
  go_upto_region 7 with fail
  have hS := Lib.hid (HPA2.out.to (bdrew (bref W2x))).cs
  go_region_held3 (fun W => W.cell? ⟨g, 0, none⟩ = some (.slice A n c) ∧ W.cell? ⟨g + 1, 0, none⟩ = some (.slice B n d) ∧ PA P Q w g (.slice A n c) (.slice B n d) ls hs W) (first | exact hS.out | exact hSK | exact paKeep (by assumption) hbK | go_keep)
    (first
      | (go_at_call_of 43 (Value.agg #[.slice A n c]); refine (HDL.out _ (by exact (paSelf (by assumption)).ml)).mono ?_; rintro e WK ⟨rfl, hbK⟩; have hSK := paKeep (by assumption) hbK)
      | (go_at_call_of 43 (Value.agg #[.slice B n d]); refine (HDH.out _ (by exact (paSelf (by assumption)).mh)).mono ?_; rintro e WK ⟨rfl, hbK⟩; have hSK := paKeep (by assumption) hbK))
  all_goals
    have hpa := paSelf (vl := .slice A n c) (vh := .slice B n d) (by assumption)
    have HPA4 := Lib.hid hpa
    have l0 := hpa.cs.1
    have hN7 : 2 ^ n ≤ 2 ^ 7 := Nat.pow_le_pow_right (by decide) hl
    have HMR := Lib.hid (fun W => rdmembers_run A n c (by omega) W)
    have hp1 : 1 ≤ 2 ^ n := Nat.one_le_two_pow
    obtain ⟨M, hM⟩ : ∃ M, 2 ^ n - 1 = M := ⟨_, rfl⟩
    have hM2 : M < 128 := by omega
    rw [hM] at HMR
    clear hpa hS hM hp1 hN7
    go_wp2_with fail
    go_loopw [40] (fun t W => ∃ k : Nat, k ≤ n ∧ t = .int .i64 (k : Int) ∧ Hid (PA P Q w g (.slice A n c) (.slice B n d) ls hs W)) (fun t _ => n - (intOf t).toNat)
    case atStart => exact ⟨0, Nat.zero_le _, rfl, HPA4⟩
    case round =>
      obtain ⟨k, hk, rfl, hPr⟩ := hrel
      clear l0
      by_cases hlt : k < n
      · have hpa := hPr.out
        obtain ⟨lm, hlm⟩ : ∃ x, ls[k]? = some x := ⟨_, List.getElem?_eq_getElem (by rw [HN.out]; exact hlt)⟩
        obtain ⟨hm2, hhm⟩ : ∃ x, hs[k]? = some x := ⟨_, List.getElem?_eq_getElem (by rw [HNH.out]; exact hlt)⟩
        obtain ⟨A', c', hA', hL⟩ := hpa.ml
        injection hA' with r1 r2 r3
        subst r1
        obtain ⟨b, off, u0, u1, u2, rfl, _, f0, f1, f2, f3, hT⟩ := hL k lm hlm
        obtain ⟨B', d', hB', hH⟩ := hpa.mh
        injection hB' with s1 s2 s3
        subst s1
        obtain ⟨b', off', v0, v1, v2, rfl, _, _, k1, k2, k3, hU⟩ := hH k hm2 hhm
        obtain ⟨t0, a1, n1, x1, a2, n2, x2, rfl, rfl, rfl⟩ := hT.form
        obtain ⟨t', b1, m1, z1, b2, m2, z2, rfl, rfl, rfl⟩ := hU.form
        have l0 := hpa.cs.1
        have HST := Lib.hid (show SV P Q w g b off b' off' k n c d t0 t' (.slice a1 n1 x1) (.slice a2 n2 x2) (.slice b1 m1 z1) (.slice b2 m2 z2) lm.2 hm2.2 ls hs wr from ⟨hpa.cs.1, hpa.cs.2.1, f1, f2, f3, k1, k2, k3, hpa, hT, hU⟩)
        have HIMP := Lib.hid (fun (hd : lm.1 = true) => HP.out.sat hlm hhm hd)
        obtain ⟨dc, T⟩ := lm
        clear hL hH hT hU f1 f2 f3 k1 k2 k3 r2 r3 s2 s3 hlm hhm
        cases dc
        · go_wp2_with fail
          go_roundw
          case rel => exact ⟨k + 1, hlt, by go_num, hPr⟩
          case measure => simp [intOf]; omega
        · obtain ⟨wo, hwo⟩ : ∃ wo : World, wo = wr := ⟨_, rfl⟩
          go_wp2_with fail
          subst hwo
          clear f0 l0
          go_loopw [8] (fun t W => ∃ j : Nat, j ≤ M + 1 ∧ t = .int .i64 (j : Int) ∧ Hid (SV P Q w g b off b' off' k n c d t0 t' (.slice a1 n1 x1) (.slice a2 n2 x2) (.slice b1 m1 z1) (.slice b2 m2 z2) T hm2.2 ls hs W)) (fun t _ => M + 1 - (intOf t).toNat)
          case atStart => exact ⟨0, by omega, rfl, HST⟩
          case round =>
            obtain ⟨j, hj, rfl, hSV⟩ := hrel
            have l1 := hSV.out.1
            go_wp2_with fail
            refine (HMR.out _).mono ?_
            rintro e W8 ⟨rfl, hb8⟩
            have HS8 := Lib.hid (SV.keep hSV.out hb8)
            clear hb8 l1
            by_cases hlt2 : j ≤ M
            · have hlti : (j : Int) ≤ (M : Int) := by omega
              obtain ⟨l1, l2, f1, f2, f3, k1, k2, k3, hq⟩ := HS8.out
              have HQ8 := Lib.hid hq
              clear hq
              go_wp2_with fail
              refine (rsat_run Q 3 hm2.2 _ _ _ j _ (by omega) HQ8.out.2.2).mono ?_
              rintro e W9 ⟨rfl, hb9⟩
              have HS9 := Lib.hid (SV.keep HS8.out hb9)
              obtain ⟨sb, hsb⟩ : ∃ sb, satB 3 hm2.2 ((j : Nat) : Int) = sb := ⟨_, rfl⟩
              have HSB := Lib.hid hsb
              rw [hsb]
              clear hb9 hsb l1 l2 f1 f2 f3 k1 k2 k3
              cases sb
              · go_wp2_with fail
                go_roundw
                case rel => exact ⟨j + 1, by omega, by go_num, HS9⟩
                case measure => simp [intOf]; omega
              · obtain ⟨l1, l2, f1, f2, f3, k1, k2, k3, hq⟩ := HS9.out
                have HQ9 := Lib.hid hq
                clear hq
                go_wp2_with fail
                refine (rsat_run P 3 T _ _ _ j _ (by omega) HQ9.out.2.1).mono ?_
                rintro e W10 ⟨rfl, hb10⟩
                rw [HIMP.out (by first | rfl | trivial) j (by omega) HSB.out]
                have HS10 := Lib.hid (SV.keep HS9.out hb10)
                clear hb10 l1 l2 f1 f2 f3 k1 k2 k3
                go_wp2_with fail
                go_roundw
                case rel => exact ⟨j + 1, by omega, by go_num, HS10⟩
                case measure => simp [intOf]; omega
            · have hlti : ¬ (j : Int) ≤ (M : Int) := by omega
              have HPZ := Lib.hid (svL HS8.out).1
              go_wp2_with fail
              go_roundw
              case rel => exact ⟨k + 1, hlt, by go_num, HPZ⟩
              case measure => simp [intOf]; omega
      · obtain rfl : k = n := by omega
        have HBF := Lib.hid hPr.out.bel
        go_wp2_with fail
        go_ret
        exact ⟨rfl, HBF.out⟩

set_option maxRecDepth 100000 in
set_option maxHeartbeats 4000000 in
theorem rdbegin_run (P Q : Nat → Prop) (ls hs : List Mem) (vl vh : Value) (s : Nat) (hsx : s < 2 ^ ls.length) (w : World) (hl : ls.length ≤ 7) (h1 : MemsAt P 3 w vl ls) (h2 : MemsAt Q 3 w vh hs) (hp : PairM ls hs) :
    Calls Try.prog 83 #[.agg #[vl], .agg #[vh], .int .i64 (s : Int)] w fun e w' => e = .returned (.int .i64 0) ∧ Below w.heap.size w w' := by
  have HS := Lib.hid hsx
  clear hsx
  obtain ⟨A, c, rfl⟩ := h1.slice
  obtain ⟨B, d, rfl⟩ := h2.slice
  have hlen := hp.len
  have hokl := hp.okl
  have hokh := hp.okh
  have hdec := hp.decl
  have HDL := Lib.hid (fun W (h : MemsAt P 3 W (.slice A ls.length c) ls) => rdeclared_run P 3 ls _ W (by omega) h)
  have HDH := Lib.hid (fun W (h : MemsAt Q 3 W (.slice B hs.length d) hs) => rdeclared_run Q 3 hs _ W (by omega) h)
  rw [hdec] at HDH
  rw [hlen] at h2 HDH hokh ⊢
  obtain ⟨n, hn⟩ : ∃ n, ls.length = n := ⟨_, rfl⟩
  have HN := Lib.hid hn
  have HNH := Lib.hid hlen
  rw [hn] at HNH
  have HD := Lib.hid (fun k (h : (declS ls ls.length).testBit k = true) => declS_bit h)
  have HDM := Lib.hid (fun k (h : (declS ls ls.length).testBit k = true) => declS_memD h)
  have hDl : declS ls ls.length < 1024 := declS_lt ls _ (by omega)
  generalize declS ls ls.length = D at HDL HDH hDl HD HDM
  rw [hn] at h1 h2 HDL HDH hokl hokh hl HD ⊢
  have HP := Lib.hid hp
  have HOL := Lib.hid hokl
  have HOH := Lib.hid hokh
  have HPA := Lib.hid (PA.new h1 h2)
  clear h1 h2 hp hokl hokh hn hdec hlen
  go_enter Try.func83, Try.ntmps83
  go_upto_region 1 with fail
  generalize ((w.alloc (.cells #[.slice A n c] 27)).alloc (.cells #[.slice B n d] 27)) = W1 at *
  generalize w.heap.size = g at HPA ⊢
  have l0 := HPA.out.cs.1
  have h0 := HPA.out.cs.2.1
  go_wp2_with fail
  refine (rdvalid_run P Q ls hs _ _ _ (by rw [HN.out]; exact hl) HPA.out.ml HPA.out.mh HP.out).mono ?_
  rintro e W1x ⟨rfl, hbx⟩
  have HPA1 := Lib.hid (HPA.out.to hbx)
  clear hbx l0 h0
  have l1 := HPA1.out.cs.1
  have h1 := HPA1.out.cs.2.1
  go_wp2_with fail
  refine (rdset_run P ls _ s _ (by rw [HN.out]; omega) HS.out HPA1.out.ml (by rw [HN.out]; exact HOL.out)).mono ?_
  rintro e W2x ⟨rfl, hbx⟩
  have HPA2 := Lib.hid (HPA1.out.to hbx)
  clear hbx l1 h1
  have l2 := HPA2.out.cs.1
  have h2 := HPA2.out.cs.2.1
  go_wp2_with fail
  go_ret
  exact ⟨rfl, HPA2.out.bel⟩

set_option maxRecDepth 100000 in
set_option maxHeartbeats 4000000 in
theorem rdis_run (P Q : Nat → Prop) (ls hs : List Mem) (vl vh : Value) (s : Nat) (hsx : s < 2 ^ ls.length) (w : World) (hl : ls.length ≤ 7) (h1 : MemsAt P 3 w vl ls) (h2 : MemsAt Q 3 w vh hs) (hp : PairM ls hs) :
    Calls Try.prog 86 #[.agg #[vl], .agg #[vh], .int .i64 (s : Int)] w fun e w' => (∃ x : Bool, e = .returned (.bool x) ∧ (x = true ↔ AvT hs s ∧ InT (D3.delM s ls))) ∧ Below w.heap.size w w' := by
  have HS := Lib.hid hsx
  clear hsx
  obtain ⟨A, c, rfl⟩ := h1.slice
  obtain ⟨B, d, rfl⟩ := h2.slice
  have hlen := hp.len
  have hokl := hp.okl
  have hokh := hp.okh
  have hdec := hp.decl
  have HDL := Lib.hid (fun W (h : MemsAt P 3 W (.slice A ls.length c) ls) => rdeclared_run P 3 ls _ W (by omega) h)
  have HDH := Lib.hid (fun W (h : MemsAt Q 3 W (.slice B hs.length d) hs) => rdeclared_run Q 3 hs _ W (by omega) h)
  rw [hdec] at HDH
  rw [hlen] at h2 HDH hokh ⊢
  obtain ⟨n, hn⟩ : ∃ n, ls.length = n := ⟨_, rfl⟩
  have HN := Lib.hid hn
  have HNH := Lib.hid hlen
  rw [hn] at HNH
  have HD := Lib.hid (fun k (h : (declS ls ls.length).testBit k = true) => declS_bit h)
  have HDM := Lib.hid (fun k (h : (declS ls ls.length).testBit k = true) => declS_memD h)
  have hDl : declS ls ls.length < 1024 := declS_lt ls _ (by omega)
  generalize declS ls ls.length = D at HDL HDH hDl HD HDM
  rw [hn] at h1 h2 HDL HDH hokl hokh hl HD ⊢
  have HP := Lib.hid hp
  have HOL := Lib.hid hokl
  have HOH := Lib.hid hokh
  have HPA := Lib.hid (PA.new h1 h2)
  clear h1 h2 hp hokl hokh hn hdec hlen
  go_enter Try.func86, Try.ntmps86
  go_upto_region 1 with fail
  generalize ((w.alloc (.cells #[.slice A n c] 27)).alloc (.cells #[.slice B n d] 27)) = W1 at *
  generalize w.heap.size = g at HPA ⊢
  have l0 := HPA.out.cs.1
  have h0 := HPA.out.cs.2.1
  go_wp2_with fail
  refine (rdavail_run Q hs _ s _ (by rw [HNH.out]; omega) (by rw [HP.out.len]; exact HS.out) HPA.out.mh (by rw [HNH.out]; exact HOH.out)).mono ?_
  rintro e W1x ⟨⟨x, rfl, hx⟩, hbx⟩
  have HPA1 := Lib.hid (HPA.out.to hbx)
  clear hbx l0 h0
  have l1 := HPA1.out.cs.1
  have h1 := HPA1.out.cs.2.1
  have HX := Lib.hid hx
  clear hx
  cases x
  · go_wp2_with fail
    go_ret
    exact ⟨⟨false, rfl, iff_of_false (by simp) (fun h => by have := HX.out.2 h.1; cases this)⟩, HPA1.out.bel⟩
  · go_wp2_with fail
    refine (rdints_run P ls _ s _ (by rw [HN.out]; omega) HS.out HPA1.out.ml (by rw [HN.out]; exact HOL.out)).mono ?_
    rintro e W2x ⟨⟨y, rfl, hy⟩, hbx⟩
    have HPA2 := Lib.hid (HPA1.out.to hbx)
    clear hbx l1 h1
    have l2 := HPA2.out.cs.1
    have h2 := HPA2.out.cs.2.1
    have HY := Lib.hid hy
    clear hy
    go_wp2_with fail
    go_ret
    exact ⟨⟨y, rfl, HY.out.trans ⟨fun h => ⟨HX.out.1 (by first | rfl | trivial), h⟩, fun h => h.2⟩⟩, HPA2.out.bel⟩

end Go.Proofs.Ytnfdacfhhkahhaa

namespace Go.Proofs.Ytnfdacfhhkahhaa
set_option linter.unusedVariables false
set_option linter.unusedSimpArgs false
open Go.RowKit

def AllOfI (s : Nat) (ls hs : List Mem) (l : List Int) (k : Nat) (L : List Nat) : Prop := L.length ≤ k ∧ ∀ b : Nat, b ∈ L ↔ (b : Int) ∈ l.take k ∧ GoodB s ls hs b

theorem AllOfI.zero (s : Nat) (ls hs : List Mem) (l : List Int) : AllOfI s ls hs l 0 [] := ⟨by simp, fun b => by simp⟩

theorem AllOfI.skip {s : Nat} {ls hs : List Mem} {l : List Int} {L : List Nat} {k b : Nat} (h : AllOfI s ls hs l k L) (hb : l[k]? = some (b : Int)) (hn : ¬ GoodB s ls hs b) : AllOfI s ls hs l (k + 1) L := by
  unfold AllOfI
  rw [List.take_add_one, hb]
  refine ⟨Nat.le_succ_of_le h.1, fun x => ?_⟩
  rw [h.2 x, List.mem_append]
  constructor
  · rintro ⟨h1, h2⟩; exact ⟨.inl h1, h2⟩
  · rintro ⟨h1 | h1, h2⟩
    · exact ⟨h1, h2⟩
    · have : (x : Int) = (b : Int) := by simpa using h1
      rw [Int.ofNat.inj this] at h2; exact absurd h2 hn

theorem AllOfI.add {s : Nat} {ls hs : List Mem} {l : List Int} {L : List Nat} {k b : Nat} (h : AllOfI s ls hs l k L) (hb : l[k]? = some (b : Int)) (hn : GoodB s ls hs b) : AllOfI s ls hs l (k + 1) (L ++ [b]) := by
  unfold AllOfI
  rw [List.take_add_one, hb]
  refine ⟨by simp; exact h.1, fun x => ?_⟩
  rw [List.mem_append, h.2 x, List.mem_append]
  constructor
  · rintro (⟨h1, h2⟩ | h1)
    · exact ⟨.inl h1, h2⟩
    · have : x = b := by simpa using h1
      rw [this]; exact ⟨.inr (by simp), hn⟩
  · rintro ⟨h1 | h1, h2⟩
    · exact .inl ⟨h1, h2⟩
    · have : (x : Int) = (b : Int) := by simpa using h1
      rw [Int.ofNat.inj this]; exact .inr (by simp)

def RAllIs (s : Nat) (ls hs : List Mem) (L : List Nat) : Prop := L.length ≤ 20000 ∧ ∀ b, b ∈ L ↔ b < 2 ^ ls.length ∧ GoodB s ls hs b

theorem ones_sub {n b : Nat} : Sub b (2 ^ n - 1) ↔ b < 2 ^ n := by
  constructor
  · intro h
    refine Nat.lt_pow_two_of_testBit _ (fun k hk => ?_)
    cases hb : b.testBit k
    · rfl
    · have h5 := h k hb
      rw [Nat.testBit_two_pow_sub_one, decide_eq_true_iff] at h5
      omega
  · intro h k hk
    rw [Nat.testBit_two_pow_sub_one, decide_eq_true (lt_bit h hk)]

set_option maxRecDepth 100000 in
set_option maxHeartbeats 4000000 in
theorem rdall_run (P Q : Nat → Prop) (ls hs : List Mem) (vl vh : Value) (s : Nat) (hsx : s < 2 ^ ls.length) (w : World) (hl : ls.length ≤ 7) (h1 : MemsAt P 3 w vl ls) (h2 : MemsAt Q 3 w vh hs) (hp : PairM ls hs) :
    Calls Try.prog 67 #[.agg #[vl], .agg #[vh], .int .i64 (s : Int)] w fun e w' => (∃ (v : Value) (L : List Nat), e = .returned (.tuple #[v, .int .i64 0]) ∧ NodesAt (fun b => w.heap.size ≤ b) w' v (zs L) ∧ RAllIs s ls hs L) ∧ Below w.heap.size w w' := by
  have HS := Lib.hid hsx
  clear hsx
  obtain ⟨A, c, rfl⟩ := h1.slice
  obtain ⟨B, d, rfl⟩ := h2.slice
  have hlen := hp.len
  have hokl := hp.okl
  have hokh := hp.okh
  have hdec := hp.decl
  have HDL := Lib.hid (fun W (h : MemsAt P 3 W (.slice A ls.length c) ls) => declared_run P 3 ls _ W (by omega) h)
  have HDH := Lib.hid (fun W (h : MemsAt Q 3 W (.slice B hs.length d) hs) => declared_run Q 3 hs _ W (by omega) h)
  rw [hdec] at HDH
  rw [hlen] at h2 HDH hokh ⊢
  obtain ⟨n, hn⟩ : ∃ n, ls.length = n := ⟨_, rfl⟩
  have HN := Lib.hid hn
  have HNH := Lib.hid hlen
  rw [hn] at HNH
  have HD := Lib.hid (fun k (h : (declS ls ls.length).testBit k = true) => declS_bit h)
  have HDM := Lib.hid (fun k (h : (declS ls ls.length).testBit k = true) => declS_memD h)
  have hDl : declS ls ls.length < 1024 := declS_lt ls _ (by omega)
  generalize declS ls ls.length = D at HDL HDH hDl HD HDM
  rw [hn] at h1 h2 HDL HDH hokl hokh hl HD ⊢
  have HP := Lib.hid hp
  have HOL := Lib.hid hokl
  have HOH := Lib.hid hokh
  have HPA := Lib.hid (PA.new h1 h2)
  clear h1 h2 hp hokl hokh hn hdec hlen
  go_enter Try.func67, Try.ntmps67
  go_upto_region 1 with fail
  generalize ((w.alloc (.cells #[.slice A n c] 27)).alloc (.cells #[.slice B n d] 27)) = W1 at *
  generalize w.heap.size = g at HPA ⊢
  have l0 := HPA.out.cs.1
  have h0 := HPA.out.cs.2.1
  go_wp2_with fail
  refine (rdbegin_run P Q ls hs _ _ s HS.out _ (by rw [HN.out]; exact hl) HPA.out.ml HPA.out.mh HP.out).mono ?_
  rintro e W1x ⟨rfl, hbx⟩
  have HPA1 := Lib.hid (HPA.out.to hbx)
  clear hbx l0 h0
  have l1 := HPA1.out.cs.1
  have h1 := HPA1.out.cs.2.1
  go_wp2_with fail
  refine (rdmembers_run A n c (by omega) _).mono ?_
  rintro e W2x ⟨rfl, hbx⟩
  have HPA2 := Lib.hid (HPA1.out.to hbx)
  clear hbx l1 h1
  have l2 := HPA2.out.cs.1
  have h2 := HPA2.out.cs.2.1
  have hp10 : 2 ^ n ≤ 2 ^ 10 := Nat.pow_le_pow_right (by omega) (by omega)
  have HPM := Lib.hid (fun W => rsubsets_run (2 ^ n - 1) W (by omega))
  have HSN := Lib.hid (show s < 2 ^ n by have h := HS.out; rw [HN.out] at h; exact h)
  have hs10 : s < 1024 := by have := HSN.out; omega
  obtain ⟨M, hM⟩ : ∃ M, 2 ^ n - 1 = M := ⟨_, rfl⟩
  have HM := Lib.hid hM
  rw [hM] at HPM ⊢
  clear hM hp10
  go_wp2_with fail
  refine (HPM.out _).mono ?_
  rintro e W6 ⟨vr, l, rfl, hnv, hlen, hmem, hb6⟩
  have HPA6 := Lib.hid (HPA2.out.to hb6)
  have HMB := Lib.hid (show ∀ b : Nat, (b : Int) ∈ l ↔ b < 2 ^ n from fun b => by
    rw [hmem, ← ones_sub, HM.out]
    constructor
    · rintro ⟨q, e, h⟩
      obtain rfl := Int.ofNat.inj e
      exact h
    · intro h; exact ⟨b, rfl, h⟩)
  have HFB := Lib.hid (show ∀ i, i < l.length → ∃ b : Nat, l[i]? = some (b : Int) ∧ b < 2 ^ n from fun i hi => by
    have e := List.getElem?_eq_getElem hi
    obtain ⟨q, h1, h2⟩ := (hmem _).1 (List.mem_of_getElem? e)
    refine ⟨q, by rw [e, h1], ones_sub.1 (by rw [HM.out]; exact h2)⟩)
  have HF := Lib.hid (show ∀ L, AllOfI s ls hs l l.length L → RAllIs s ls hs L from fun L h => ⟨Nat.le_trans h.1 hlen, fun b => by
    rw [h.2 b, List.take_length, HMB.out b, HN.out]⟩)
  obtain ⟨Nn, cn, rfl⟩ := hnv.slice
  obtain ⟨m, hm⟩ : ∃ m, l.length = m := ⟨_, rfl⟩
  rw [hm] at hnv hlen HF ⊢
  have HNV := Lib.hid hnv
  have HML := Lib.hid hm
  obtain ⟨i0, hin, hz0, hz1, hz2⟩ := info_parts infoInt
  clear hb6 hnv hm hmem l2 h2 HPA2 HPA1 HPA HPM
  go_wp2_with fail
  go_loopw [9, 23] (fun u t W => ∃ (k : Nat) (v : Value) (L : List Nat), k ≤ m ∧ u = v ∧ t = .int .i64 (k : Int) ∧ W.ownsRow W6.heap.size 3 1 v L.length ((zs L).map (Value.int .i64)) ∧ Hid (AllOfI s ls hs l k L) ∧ Hid (Below W6.heap.size W6 W)) (fun _ t _ => m - (intOf t).toNat)
  case atStart => exact ⟨0, _, [], Nat.zero_le _, rfl, rfl, World.ownsRow_nil _ _ _ _, Lib.hid (AllOfI.zero _ _ _ _), Lib.hid (bref _)⟩
  case round =>
    obtain ⟨k, v, L, hk, hv, rfl, hown, hAll, hBe⟩ := hrel
    subst hv
    have hszb := hBe.out.size
    have hLl : L.length ≤ k := by exact hAll.out.1
    by_cases hlt : k < m
    · obtain ⟨An, cn', hAn, hcl⟩ := HNV.out
      injection hAn with q1 q2 q3
      subst q1
      obtain ⟨bn, on, hbn, _, hcn⟩ := hcl k (by rw [HML.out]; exact hlt)
      subst hbn
      obtain ⟨b, hb, hb2⟩ := HFB.out k (by rw [HML.out]; exact hlt)
      rw [show l.getD k 0 = (b : Int) by rw [List.getD_eq_getElem?_getD, hb]; rfl] at hcn
      have hp10 : 2 ^ n ≤ 2 ^ 10 := Nat.pow_le_pow_right (by omega) (by omega)
      have hb10 : b < 1024 := by omega
      have HB2 := Lib.hid (show b < 2 ^ ls.length by rw [HN.out]; exact hb2)
      clear hb2 hp10
      have n0 : wr.cell? ⟨bn, on + k, none⟩ = some (.int .i64 (b : Int)) := (hBe.out.cell (cell_lt hcn)).trans hcn
      have hpa := HPA6.out.to hBe.out
      have l0 := hpa.cs.1
      have h0 := hpa.cs.2.1
      have HPAR := Lib.hid hpa
      have hand := i64_and_nat b s (by omega) (by omega)
      have HZ := Lib.hid (show b &&& s = s ↔ Sub s b from by rw [Nat.and_comm]; exact and_self_sub)
      generalize b &&& s = z at hand HZ
      have HB := Lib.hid hb
      have HOWN := Lib.hid hown
      clear hcl hcn hpa q2 q3 hb
      by_cases hz : z = s
      · have HSU := Lib.hid (HZ.out.1 hz)
        subst hz
        go_wp2_with fail
        refine (rdis_run P Q ls hs _ _ b HB2.out _ (by rw [HN.out]; exact hl) HPAR.out.ml HPAR.out.mh HP.out).mono ?_
        rintro e W7 ⟨⟨x, rfl, hx⟩, hb7⟩
        have HX := Lib.hid hx
        have HB7 := Lib.hid (bstep hBe.out hb7)
        have hown7 := own_keepG HOWN.out (fun j _ _ hl => hb7.block j hl)
        have HOWN7 := Lib.hid hown7
        have hsz7 := HB7.out.size
        clear hx n0 l0 h0 hown
        cases x
        · have HA := Lib.hid (hAll.out.skip HB.out (fun h => by have := HX.out.2 h.2; cases this))
          clear hb7 hown7
          go_wp2_with fail
          go_roundw
          case rel => exact ⟨k + 1, _, L, by omega, rfl, by go_num, HOWN7.out, HA, HB7⟩
          case measure => simp [intOf]; omega
        · have HA := Lib.hid (hAll.out.add HB.out ⟨HSU.out, HX.out.1 (by first | rfl | trivial)⟩)
          clear hb7
          go_wp2_with (at_builtin; refine wpList_append_own _ rfl _ _ 22 rfl W6.heap.size 3 i0 (.int .i64 0) 1 8 Try.underlying22 hin hz0 hz1 hz2 rfl (by decide) _ _ _ rfl (hown7.alloc _) ⟨W7.heap.size, 0, none⟩ 1 1 [.int .i64 (b : Int)] rfl rfl (cell_one_new _ _ _) (fun u hu => by simp at hu; subst hu; rfl) (by unfold maxLen; omega) (by omega) (by simp; omega) ?_; intro v' w1 hown' hgrow hnil)
          have HO := Lib.hid (own_snoc hown')
          have HB4 := Lib.hid (Below.grown (balloc HB7.out (.cells #[.int .i64 (b : Int)] 3)) hgrow (by simp; omega) (fun j hj => (hown7.lt j hj).1))
          clear hown' hgrow hnil hown7
          go_roundw
          case rel => exact ⟨k + 1, _, L ++ [b], by omega, rfl, by go_num, by simpa [zs] using HO.out, HA, HB4⟩
          case measure => simp [intOf]; omega
      · have hzi : ¬ ((z : Nat) : Int) = (s : Int) := by omega
        have HA := Lib.hid (hAll.out.skip HB.out (fun h => hz (HZ.out.2 h.1)))
        clear hown
        go_wp2_with fail
        go_roundw
        case rel => exact ⟨k + 1, _, L, by omega, rfl, by go_num, HOWN.out, HA, hBe⟩
        case measure => simp [intOf]; omega
    · obtain rfl : k = m := by omega
      have HBF := Lib.hid (HPA6.out.to hBe.out).bel
      have HAL := Lib.hid (HF.out L hAll.out)
      have hge : w.heap.size ≤ W6.heap.size := HPA6.out.bel.size
      have HNF := Lib.hid ((NodesAt.of_ownZ hown).both (w' := wr) (Q := fun b => w.heap.size ≤ b) (fun _ _ _ => rfl) (fun q _ hq => by have : W6.heap.size ≤ q := hq; show w.heap.size ≤ q; omega))
      clear hown
      go_wp2_with fail
      go_ret2
      exact ⟨⟨_, L, rfl, HNF.out, HAL.out⟩, HBF.out⟩

end Go.Proofs.Ytnfdacfhhkahhaa

namespace Go.Proofs.Ytnfdacfhhkahhaa
set_option linter.unusedVariables false
set_option linter.unusedSimpArgs false
open Go.RowKit

/-- What satisfies a member. -/
def fOf (ms : List Mem) (k s : Nat) : Bool := satB 3 (trOf ms k) ((s : Nat) : Int)

theorem decl_lt2 (ms : List Mem) : declS ms ms.length < 2 ^ ms.length :=
  Nat.lt_pow_two_of_testBit _ (fun k hk => by
    cases hb : (declS ms ms.length).testBit k
    · rfl
    · have := declS_bit hb
      omega)

theorem fOf_mono (ms : List Mem) (k a b : Nat) (ha : a < 1024) (hb : b < 1024) (h : Sub a b) (h2 : fOf ms k a = true) : fOf ms k b = true := by
  unfold fOf at h2 ⊢
  rw [sat_of ha] at h2
  rw [sat_of hb]
  exact holdsT_monoA (fun x hx => hasB_sub hb h x hx) 3 _ h2

theorem pairF {ls hs : List Mem} (hp : PairM ls hs) (hl : ls.length ≤ 10) : PairF (fOf ls) (fOf hs) (declS ls ls.length) ls.length :=
  ⟨hl, decl_lt2 ls, fOf_mono ls, fOf_mono hs, fun k s hk hs2 h => by
    obtain ⟨l, e1, hd⟩ := declS_memD hk
    obtain ⟨x, e2⟩ : ∃ x, hs[k]? = some x := ⟨_, List.getElem?_eq_getElem (by rw [hp.len]; exact declS_bit hk)⟩
    have := hp.sat e1 e2 hd s hs2
    unfold fOf trOf at h ⊢
    rw [List.getD_eq_getElem?_getD, e2] at h
    rw [List.getD_eq_getElem?_getD, e1]
    exact this h⟩

theorem isq_del {ls : List Mem} {B q : Nat} (hl : ls.length ≤ 10) (hB : B < 1024) (hok : D3.MemsOk ls.length ls) (hq : q < 1024) : IsQ 3 (D3.delM B ls) q ↔ QB (fOf ls) (declS ls ls.length) B q := by
  have hsub : Sub q (declS (D3.delM B ls) (D3.delM B ls).length) ↔ ∀ k, q.testBit k = true → B.testBit k = false ∧ (declS ls ls.length).testBit k = true := by
    rw [D3.decl_del hl hB]
    constructor
    · intro h k hk
      have h3 := h k hk
      rw [minS_bit, Bool.and_eq_true, Bool.not_eq_true'] at h3
      exact ⟨h3.2, h3.1⟩
    · intro h k hk
      have h3 := h k hk
      rw [minS_bit, h3.1, h3.2]; rfl
  have hsat : ∀ k, q.testBit k = true → B.testBit k = false → (declS ls ls.length).testBit k = true → (uns 3 (D3.delM B ls) q k = false ↔ fOf ls k (q ||| B) = true) := fun k hk hb hd => by
    have hkl := declS_bit hd
    obtain ⟨m, hm, hm1⟩ := declS_memD hd
    rw [uns_iff hq (by omega), hk, Bool.true_and, D3.trOf_del hB (by omega) hm hm1 hb, del_means (n := (ls.length : Int)) (by omega) ((hok m (List.mem_of_getElem? hm)).1 hm1) hB hq (or_lt hq hB) (by omega) hk (fun K hK => by rw [Nat.testBit_or, Bool.or_comm])]
    unfold fOf trOf
    rw [List.getD_eq_getElem?_getD, hm]
    show (!satB 3 m.2 _) = false ↔ satB 3 m.2 _ = true
    cases satB 3 m.2 ((q ||| B : Nat) : Int) <;> simp
  unfold IsQ QB Closed
  rw [hsub, D3.delM_len]
  constructor
  · rintro ⟨h1, h2, h3⟩
    exact ⟨h1, hq, fun k hk => ⟨(h2 k hk).1, (h2 k hk).2, (hsat k hk (h2 k hk).1 (h2 k hk).2).1 (h3 k (declS_bit (h2 k hk).2))⟩⟩
  · rintro ⟨h1, _, h3⟩
    refine ⟨h1, fun k hk => ⟨(h3 k hk).1, (h3 k hk).2.1⟩, fun k hk => ?_⟩
    cases hb : q.testBit k
    · rw [uns_iff hq (by omega), hb]; rfl
    · exact (hsat k hb (h3 k hb).1 (h3 k hb).2.1).2 (h3 k hb).2.2

theorem inT_iff {ls : List Mem} {B : Nat} (hl : ls.length ≤ 10) (hB : B < 1024) (hok : D3.MemsOk ls.length ls) : InT (D3.delM B ls) ↔ IntB (fOf ls) (declS ls ls.length) B := by
  have hp := pow_1024 hl
  have hll : (D3.delM B ls).length ≤ 10 := by rw [D3.delM_len]; exact hl
  constructor
  · intro h a b ha hb
    by_cases hx : ∃ k, a.testBit k = true ∧ b.testBit k = true
    · exact hx
    · refine absurd ⟨(isq_del hl hB hok ha.2.1).2 ha, b, hb.2.1, hb.1, fun k hk => ?_, ((isq_del hl hB hok hb.2.1).2 hb).2.2⟩ (h a)
      have h2 := ((isq_del hl hB hok hb.2.1).2 hb).2.1 k hk
      rw [Nat.testBit_and, h2, Bool.and_true, outS_bit, decide_eq_true (declS_bit h2)]
      cases hak : a.testBit k
      · rfl
      · exact absurd ⟨k, hak, hk⟩ hx
  · rintro h t ⟨h1, q, hq, h2, h3, h4⟩
    have ht : t < 1024 := by
      have := apart_lt (d := 3) (ms := D3.delM B ls) hll ⟨h1, q, hq, h2, h3, h4⟩
      rw [D3.delM_len] at this; omega
    have hsub : Sub q (declS (D3.delM B ls) (D3.delM B ls).length) := fun k hk => by have := h3 k hk; rw [Nat.testBit_and, Bool.and_eq_true] at this; exact this.2
    obtain ⟨k, k1, k2⟩ := h t q ((isq_del hl hB hok ht).1 h1) ((isq_del hl hB hok hq).1 ⟨h2, hsub, h4⟩)
    have h5 := h3 k k2
    rw [Nat.testBit_and, Bool.and_eq_true, outS_bit, k1] at h5
    simp at h5

theorem avT_iff {ls hs : List Mem} {B : Nat} (hp : PairM ls hs) (hl : ls.length ≤ 10) : AvT hs B ↔ AvB (fOf hs) (declS ls ls.length) ls.length B := by
  unfold AvT AvB
  rw [hp.len]
  refine or_congr Iff.rfl ?_
  have hO := outS_lt ls.length B hl
  generalize outS ls.length B = q at hO
  unfold IsQ QB Closed
  rw [hp.decl]
  constructor
  · rintro ⟨h1, h2, h3⟩
    refine ⟨h1, hO, fun k hk => ⟨Nat.zero_testBit k, h2 k hk, ?_⟩⟩
    have hkl := declS_bit (h2 k hk)
    have h4 := h3 k (by rw [hp.len]; exact hkl)
    rw [uns_iff hO (by omega), hk, Bool.true_and, Bool.not_eq_false'] at h4
    rw [Nat.or_zero]; exact h4
  · rintro ⟨h1, _, h3⟩
    refine ⟨h1, fun k hk => (h3 k hk).2.1, fun k hk => ?_⟩
    rw [uns_iff hO (by have := hp.len; omega)]
    cases hb : q.testBit k
    · rfl
    · have h4 := (h3 k hb).2.2
      rw [Nat.or_zero] at h4
      unfold fOf at h4
      rw [h4]; rfl

theorem good_iff {ls hs : List Mem} {B : Nat} (hp : PairM ls hs) (hl : ls.length ≤ 10) (hB : B < 1024) : (AvT hs B ∧ InT (D3.delM B ls)) ↔ DispB (fOf ls) (fOf hs) (declS ls ls.length) ls.length B :=
  and_congr (avT_iff hp hl) (inT_iff hl hB hp.okl)

/-- The meet of two sets of All. -/
theorem all_meets {ls hs : List Mem} {ill x y : Nat} {L : List Nat} (hp : PairM ls hs) (hl : ls.length ≤ 10) (hi : ill < 2 ^ ls.length) (h : AllIs ill ls hs L) (hin : InT (D3.delM ill ls)) (hx : x ∈ L) (hy : y ∈ L) : x &&& y ∈ L := by
  have hp2 := pow_1024 hl
  obtain ⟨x1, x2, x3⟩ := (h.2.2 x).1 hx
  obtain ⟨y1, y2, y3⟩ := (h.2.2 y).1 hy
  have hxy : x &&& y < 2 ^ ls.length := and_ltL x1
  refine (h.2.2 _).2 ⟨hxy, fun k hk => by rw [Nat.testBit_and, x2 k hk, y2 k hk]; rfl, ?_⟩
  exact (good_iff hp hl (by omega)).2 (disp_meets (pairF hp hl) x1 y1 hi x2 y2 ((inT_iff hl (by omega) hp.okl).1 hin) ((good_iff hp hl (by omega)).1 x3) ((good_iff hp hl (by omega)).1 y3))

theorem all_full {ls hs : List Mem} {ill : Nat} {L : List Nat} (hp : PairM ls hs) (hl : ls.length ≤ 10) (hi : ill < 2 ^ ls.length) (h : AllIs ill ls hs L) : 2 ^ ls.length - 1 ∈ L := by
  have hp2 := pow_1024 hl
  have h1 : 1 ≤ 2 ^ ls.length := Nat.one_le_two_pow
  refine (h.2.2 _).2 ⟨by omega, fun k hk => by rw [Nat.testBit_two_pow_sub_one, decide_eq_true (lt_bit hi hk)], (good_iff hp hl (by omega)).2 (disp_all (pairF hp hl))⟩

theorem all_undecl {ls hs : List Mem} {ill x : Nat} {L : List Nat} (hp : PairM ls hs) (hl : ls.length ≤ 10) (h : AllIs ill ls hs L) (hx : x ∈ L) : x &&& outS ls.length (declS ls ls.length) = outS ls.length (declS ls ls.length) := by
  have hp2 := pow_1024 hl
  obtain ⟨x1, x2, x3⟩ := (h.2.2 x).1 hx
  have h4 := ((good_iff hp hl (by omega)).1 x3).1
  apply Nat.eq_of_testBit_eq
  intro k
  rw [Nat.testBit_and]
  cases ho : (outS ls.length (declS ls ls.length)).testBit k
  · rw [Bool.and_false]
  · rw [outS_bit, Bool.and_eq_true, Bool.not_eq_true', decide_eq_true_iff] at ho
    have h5 := disp_undecl (f := fOf ls) h4 ho.1 ho.2
    rw [h5]; rfl

end Go.Proofs.Ytnfdacfhhkahhaa

namespace Go.Proofs.Ytnfdacfhhkahhaa
set_option linter.unusedVariables false
set_option linter.unusedSimpArgs false

/-- All dispensable sets that contain ill. -/
def AllL (f g : Nat → Nat → Bool) (D n ill : Nat) (l : List Nat) : Prop := ∀ t, t ∈ l ↔ t < 2 ^ n ∧ Sub ill t ∧ DispB f g D n t

def bfold (n : Nat) (l : List Nat) : Nat := l.foldl (fun a b => a &&& b) (2 ^ n - 1)

theorem fold_bit : ∀ (l : List Nat) (s k : Nat), (l.foldl (fun a b => a &&& b) s).testBit k = true ↔ s.testBit k = true ∧ ∀ x ∈ l, x.testBit k = true
  | [], s, k => by simp
  | x :: l, s, k => by
    rw [List.foldl_cons, fold_bit l, Nat.testBit_and, Bool.and_eq_true]
    simp [and_assoc]

theorem bf_bit {n k : Nat} {l : List Nat} : (bfold n l).testBit k = true ↔ k < n ∧ ∀ x ∈ l, x.testBit k = true := by
  unfold bfold
  rw [fold_bit, Nat.testBit_two_pow_sub_one, decide_eq_true_iff]

theorem bf_lt (n : Nat) (l : List Nat) : bfold n l < 2 ^ n := Nat.lt_pow_two_of_testBit _ (fun k hk => by
  cases h : (bfold n l).testBit k
  · rfl
  · have := (bf_bit.1 h).1; omega)

theorem bf_sub {n x : Nat} {l : List Nat} (h : x ∈ l) : Sub (bfold n l) x := fun k hk => (bf_bit.1 hk).2 x h

theorem bf_mem {f g : Nat → Nat → Bool} {D n ill : Nat} {l : List Nat} (P : PairF f g D n) (hil : ill < 2 ^ n) (hi : IntB f D ill) (h : AllL f g D n ill l) : bfold n l ∈ l := by
  have key : ∀ (m : List Nat) (s : Nat), s ∈ l → (∀ x ∈ m, x ∈ l) → m.foldl (fun a b => a &&& b) s ∈ l := by
    intro m
    induction m with
    | nil => intro s hs _; exact hs
    | cons x m ih =>
      intro s hs hm
      refine ih _ ?_ (fun y hy => hm y (by simp [hy]))
      have h1 := (h s).1 hs
      have h2 := (h x).1 (hm x (by simp))
      refine (h _).2 ⟨Nat.lt_of_le_of_lt Nat.and_le_left h1.1, fun k hk => ?_, disp_meets P h1.1 h2.1 hil h1.2.1 h2.2.1 hi h1.2.2 h2.2.2⟩
      rw [Nat.testBit_and, h1.2.1 k hk, h2.2.1 k hk]; rfl
  refine key l _ ((h _).2 ⟨by have := Nat.two_pow_pos n; omega, fun k hk => ?_, disp_all P⟩) (fun x hx => hx)
  rw [Nat.testBit_two_pow_sub_one, decide_eq_true (lt_bit hil hk)]

theorem bf_ill {f g : Nat → Nat → Bool} {D n ill : Nat} {l : List Nat} (hil : ill < 2 ^ n) (h : AllL f g D n ill l) : Sub ill (bfold n l) := fun k hk => bf_bit.2 ⟨lt_bit hil hk, fun x hx => ((h x).1 hx).2.1 k hk⟩

theorem int_bit {n b k : Nat} : (outS n b).testBit k = true ↔ k < n ∧ b.testBit k = false := by
  rw [outS_bit]; simp

/-- The intact members are a quorum of High. -/
theorem int_quorum {f g : Nat → Nat → Bool} {D n ill : Nat} {l : List Nat} (P : PairF f g D n) (hil : ill < 2 ^ n) (hi : IntB f D ill) (h : AllL f g D n ill l) (h0 : outS n (bfold n l) ≠ 0) : QB g D 0 (outS n (bfold n l)) := by
  rcases ((h _).1 (bf_mem P hil hi h)).2.2.1 with h1 | h1
  · exact absurd h1 h0
  · exact h1

/-- A quorum of High is one of Low. -/
theorem quorum_low {f g : Nat → Nat → Bool} {D n u : Nat} (P : PairF f g D n) (h : QB g D 0 u) : QB f D 0 u :=
  ⟨h.1, h.2.1, fun k hk => ⟨(h.2.2 k hk).1, (h.2.2 k hk).2.1, P.gf k _ (h.2.2 k hk).2.1 (or_lt h.2.1 (by omega)) (h.2.2 k hk).2.2⟩⟩

theorem bf_mono {f g : Nat → Nat → Bool} {D n ill more : Nat} {l m : List Nat} (hs : Sub ill more) (h : AllL f g D n ill l) (h' : AllL f g D n more m) : Sub (bfold n l) (bfold n m) := fun k hk =>
  bf_bit.2 ⟨(bf_bit.1 hk).1, fun x hx => (bf_bit.1 hk).2 x ((h x).2 ⟨((h' x).1 hx).1, fun j hj => ((h' x).1 hx).2.1 j (hs j hj), ((h' x).1 hx).2.2⟩)⟩

theorem sub_anti {a b : Nat} (h1 : Sub a b) (h2 : Sub b a) : a = b := Nat.eq_of_testBit_eq (fun k => by
  cases h : a.testBit k
  · cases h' : b.testBit k
    · rfl
    · rw [h2 k h'] at h; cases h
  · rw [h1 k h])

theorem bf_again {f g : Nat → Nat → Bool} {D n ill : Nat} {l m : List Nat} (P : PairF f g D n) (hil : ill < 2 ^ n) (hi : IntB f D ill) (h : AllL f g D n ill l) (h' : AllL f g D n (bfold n l) m) : bfold n m = bfold n l := by
  refine sub_anti (bf_sub ((h' _).2 ⟨bf_lt n l, fun k hk => hk, ((h _).1 (bf_mem P hil hi h)).2.2⟩)) (bf_mono (bf_ill hil h) h h')

theorem bf_int {f g : Nat → Nat → Bool} {D n ill : Nat} {l : List Nat} (P : PairF f g D n) (hil : ill < 2 ^ n) (hi : IntB f D ill) (h : AllL f g D n ill l) : IntB f D (bfold n l) := ((h _).1 (bf_mem P hil hi h)).2.2.2

theorem compl_bit {s k : Nat} (h : s < 1024) : (1023 - s).testBit k = (decide (k < 10) && !s.testBit k) := by
  have : 1023 - s = 2 ^ 10 - (s + 1) := by omega
  rw [this, Nat.testBit_two_pow_sub_succ h]

/-- The cascade: as long as an intact member is missing, one that is missing is blocked. -/
theorem casc_step {f g : Nat → Nat → Bool} {D n ill u x : Nat} {l : List Nat} (P : PairF f g D n) (hil : ill < 2 ^ n) (hi : IntB f D ill) (h : AllL f g D n ill l) (hloc : ∀ k s, D.testBit k = true → s < 1024 → f k s = f k (s &&& (2 ^ n - 1)))
    (hu : QB f D 0 u) (hua : ∃ k, u.testBit k = true ∧ (outS n (bfold n l)).testBit k = true) (hux : ∀ k, u.testBit k = true → (outS n (bfold n l)).testBit k = true → x.testBit k = true) (hx : x < 1024)
    (hne : ∃ k, (outS n (bfold n l)).testBit k = true ∧ x.testBit k = false) :
    ∃ k, (outS n (bfold n l)).testBit k = true ∧ x.testBit k = false ∧ D.testBit k = true ∧ f k (1023 - (x &&& outS n (bfold n l))) = false := by
  have p10 := pow_1024 P.n10
  obtain ⟨b, hb⟩ : ∃ b, bfold n l = b := ⟨_, rfl⟩
  have hbi := bf_int P hil hi h
  have hbl := bf_lt n l
  have h0 : outS n (bfold n l) ≠ 0 := by obtain ⟨k, hk⟩ := hne; exact ne_of_bit hk.1
  have hq := int_quorum P hil hi h h0
  simp only [hb] at hbi hbl h0 hq hua hux hne ⊢
  have ha := outS_lt2 n b
  obtain ⟨a, haa⟩ : ∃ a, outS n b = a := ⟨_, rfl⟩
  have hab : ∀ k, a.testBit k = true ↔ k < n ∧ b.testBit k = false := fun k => by rw [← haa]; exact int_bit
  simp only [haa] at h0 hq ha hua hux hne ⊢
  refine Classical.byContradiction fun hno => ?_
  have sat : ∀ k, a.testBit k = true → x.testBit k = false → f k (1023 - (x &&& a)) = true := fun k h1 h2 => by
    cases h3 : f k (1023 - (x &&& a))
    · exact absurd ⟨k, h1, h2, (hq.2.2 k h1).2.1, h3⟩ hno
    · rfl
  have hxa : x &&& a < 1024 := and_ltL hx
  have q1 : QB f D b (minS a x) := by
    refine ⟨?_, minS_lt (by omega), fun k hk => ?_⟩
    · obtain ⟨k, h1, h2⟩ := hne
      exact ne_of_bit (k := k) (by rw [minS_bit, h1, h2]; rfl)
    · rw [minS_bit, Bool.and_eq_true, Bool.not_eq_true'] at hk
      refine ⟨((hab k).1 hk.1).2, (hq.2.2 k hk.1).2.1, ?_⟩
      have h3 := sat k hk.1 hk.2
      rw [hloc k _ (hq.2.2 k hk.1).2.1 (by omega)] at h3
      refine P.mf k _ _ (and_ltL (by omega)) (or_lt (minS_lt (by omega)) (by omega)) (fun j hj => ?_) h3
      rw [Nat.testBit_and, compl_bit hxa, Nat.testBit_two_pow_sub_one, Nat.testBit_and] at hj
      rw [Nat.testBit_or, minS_bit]
      simp only [Bool.and_eq_true, decide_eq_true_eq, Bool.not_eq_true', Bool.and_eq_false_iff] at hj
      cases hbj : b.testBit j
      · have hja := (hab j).2 ⟨hj.2, hbj⟩
        rw [hja]
        rcases hj.1.2 with h4 | h4
        · rw [h4]; rfl
        · rw [hja] at h4; cases h4
      · simp
  have q2 : QB f D b (u &&& a) := by
    refine ⟨?_, and_ltL hu.2.1, fun k hk => ?_⟩
    · obtain ⟨k, h1, h2⟩ := hua
      exact ne_of_bit (k := k) (by rw [Nat.testBit_and, h1, h2]; rfl)
    · rw [Nat.testBit_and, Bool.and_eq_true] at hk
      refine ⟨((hab k).1 hk.2).2, (hu.2.2 k hk.1).2.1, ?_⟩
      have h3 := (hu.2.2 k hk.1).2.2
      rw [Nat.or_zero, hloc k _ (hu.2.2 k hk.1).2.1 hu.2.1] at h3
      refine P.mf k _ _ (and_ltL hu.2.1) (or_lt (and_ltL hu.2.1) (by omega)) (fun j hj => ?_) h3
      rw [Nat.testBit_and, Nat.testBit_two_pow_sub_one] at hj
      rw [Nat.testBit_or, Nat.testBit_and]
      simp only [Bool.and_eq_true, decide_eq_true_eq] at hj
      cases hbj : b.testBit j
      · rw [hj.1, (hab j).2 ⟨hj.2, hbj⟩]; rfl
      · simp
  obtain ⟨k, k1, k2⟩ := hbi _ _ q1 q2
  rw [minS_bit, Bool.and_eq_true, Bool.not_eq_true'] at k1
  rw [Nat.testBit_and, Bool.and_eq_true] at k2
  rw [hux k k2.1 k2.2] at k1
  exact absurd k1.2 (by simp)

end Go.Proofs.Ytnfdacfhhkahhaa

namespace Go.Proofs.Ytnfdacfhhkahhaa
set_option linter.unusedVariables false
set_option linter.unusedSimpArgs false
open Go.RowKit

theorem bf_succ {n k b : Nat} {L : List Nat} (h : L[k]? = some b) : bfold n (L.take (k + 1)) = bfold n (L.take k) &&& b := by
  unfold bfold
  rw [List.take_add_one, h, List.foldl_append]; rfl

/-- What Of returns. -/
def OfIs (s : Nat) (ls hs : List Mem) (a : Nat) : Prop := (¬ InT (D3.delM s ls) ∧ a = 0) ∨ (InT (D3.delM s ls) ∧ ∃ L, AllIs s ls hs L ∧ a = outS ls.length (bfold ls.length L))

theorem OfIs.lt {s : Nat} {ls hs : List Mem} {a : Nat} (h : OfIs s ls hs a) : a < 2 ^ ls.length := by
  rcases h with ⟨_, rfl⟩ | ⟨_, L, _, rfl⟩
  · exact Nat.two_pow_pos _
  · exact outS_lt2 _ _

end Go.Proofs.Ytnfdacfhhkahhaa

namespace Go.Proofs.Ytnfdacfhhkahhaa
set_option linter.unusedVariables false
set_option linter.unusedSimpArgs false
open Go.RowKit

/-- Nobody outside of s is blocked by it. -/
def CClosed (d : Nat) (ms : List Mem) (s : Nat) : Prop := ∀ k, k < ms.length → s.testBit k = false → blkM d ms s k = false

/-- The nodes of l follow, one after the other, from s on, and lead to r. -/
def CasR (d : Nat) (ms : List Mem) : Nat → List Int → Nat → Prop
  | s, [], r => r = s
  | s, x :: l, r => ∃ k : Nat, x = (k : Int) ∧ k < ms.length ∧ s.testBit k = false ∧ blkM d ms s k = true ∧ CasR d ms (s ||| 2 ^ k) l r

theorem CasR.snoc {d : Nat} {ms : List Mem} : ∀ (l : List Int) (s r k : Nat), CasR d ms s l r → k < ms.length → r.testBit k = false → blkM d ms r k = true → CasR d ms s (l ++ [(k : Int)]) (r ||| 2 ^ k)
  | [], s, r, k, h, hk, hb, hu => by
    obtain rfl : r = s := h
    exact ⟨k, rfl, hk, hb, hu, rfl⟩
  | x :: l, s, r, k, h, hk, hb, hu => by
    obtain ⟨j, e, hj, hbj, huj, h2⟩ := h
    exact ⟨j, e, hj, hbj, huj, CasR.snoc l _ r k h2 hk hb hu⟩

theorem CasR.none {d : Nat} {ms : List Mem} {s r : Nat} {l : List Int} (h : CasR d ms s l r) (hc : CClosed d ms s) : l = [] ∧ r = s := by
  cases l with
  | nil => exact ⟨rfl, h⟩
  | cons x l =>
    obtain ⟨k, _, hk, hb, hu, _⟩ := h
    rw [hc k hk hb] at hu; cases hu

/-- r is what a cascade from S has reached. -/
structure CasAt (d : Nat) (ms : List Mem) (S : Nat) (gs : List Int) (r : Nat) : Prop where
  lt : r < 1024
  len : gs.length + S ≤ r
  sub : Sub S r
  cas : CasR d ms S gs r
  least : ∀ Q, Q < 1024 → Sub S Q → CClosed d ms Q → Sub r Q

theorem CasAt.first {d : Nat} {ms : List Mem} {S : Nat} (h : S < 1024) : CasAt d ms S [] S := ⟨h, by simp, fun _ h => h, rfl, fun Q _ h _ => h⟩

theorem or_grows {r k : Nat} (hb : r.testBit k = false) : r + 1 ≤ r ||| 2 ^ k := by
  have h1 : r ≤ r ||| 2 ^ k := Nat.left_le_or
  rcases Nat.lt_or_ge r (r ||| 2 ^ k) with h2 | h2
  · exact h2
  · have e : r ||| 2 ^ k = r := by omega
    have h3 : (r ||| 2 ^ k).testBit k = true := by rw [Nat.testBit_or, Nat.testBit_two_pow_self, Bool.or_true]
    rw [e, hb] at h3; cases h3

theorem CasAt.step {d : Nat} {ms : List Mem} {S : Nat} {gs : List Int} {r k : Nat} (h : CasAt d ms S gs r) (hl : ms.length ≤ 10) (hk : k < ms.length) (hb : r.testBit k = false) (hu : blkM d ms r k = true) : CasAt d ms S (gs ++ [(k : Int)]) (r ||| 2 ^ k) := by
  have hg := or_grows hb
  have hp : 2 ^ k < 2 ^ 10 := Nat.pow_lt_pow_right (by omega) (by omega)
  refine ⟨Nat.or_lt_two_pow (n := 10) h.lt hp, by have := h.len; simp; omega, fun j hj => ?_, h.cas.snoc _ _ _ _ hk hb hu, fun Q hQ hQS hQc => fun j hj => ?_⟩
  · rw [Nat.testBit_or, h.sub j hj]; rfl
  · rw [Nat.testBit_or, Bool.or_eq_true] at hj
    have h1 := h.least Q hQ hQS hQc
    rcases hj with hj | hj
    · exact h1 j hj
    · rw [Nat.testBit_two_pow] at hj
      obtain rfl : k = j := by simpa using hj
      cases hq : Q.testBit k
      · have h2 := hQc k hk hq
        rw [blkM_sub hQ h1 hu] at h2; cases h2
      · rfl

/-- C is the cascade of S. -/
structure IsCas (d : Nat) (ms : List Mem) (S C : Nat) : Prop where
  sub : Sub S C
  closed : CClosed d ms C
  least : ∀ Q, Q < 1024 → Sub S Q → CClosed d ms Q → Sub C Q

theorem CasAt.is {d : Nat} {ms : List Mem} {S : Nat} {gs : List Int} {r : Nat} (h : CasAt d ms S gs r) (hc : CClosed d ms r) : IsCas d ms S r := ⟨h.sub, hc, h.least⟩

/-- What following says. -/
def FOk (d : Nat) (ms : List Mem) (s : Nat) (K : Int) : Prop := (∃ k : Nat, K = (k : Int) ∧ k < ms.length ∧ s.testBit k = false ∧ blkM d ms s k = true) ∨ (K = -1 ∧ CClosed d ms s)

set_option maxRecDepth 100000 in
set_option maxHeartbeats 4000000 in
theorem following_run (P : Nat → Prop) (d : Nat) (ms : List Mem) (v : Value) (s : Nat) (w : World) (hl : ms.length ≤ 10) (hs : s < 1024) (h : MemsAt P d w v ms) :
    Calls Try.prog 51 #[.agg #[v], .int .i64 (s : Int)] w fun e w' => ∃ K : Int, e = .returned (.int .i64 K) ∧ FOk d ms s K ∧ Below w.heap.size w w' := by
  obtain ⟨A, c, rfl⟩ := h.slice
  have hb1 : Below w.heap.size w (w.alloc (.cells #[.slice A ms.length c] 27)) := balloc (bref w) _
  have k0 : (w.alloc (.cells #[.slice A ms.length c] 27)).heap[w.heap.size]? = some (.cells #[.slice A ms.length c] 27 (0, 0)) := alloc_at rfl
  have H := Lib.hid (h.below hb1)
  have HB := Lib.hid hb1
  have K0 := Lib.hid k0
  clear h hb1 k0
  go_enter Try.func51, Try.ntmps51
  go_upto_region 1 with fail
  generalize w.alloc (.cells #[.slice A ms.length c] 27) = W1 at *
  generalize hg : w.heap.size = g at *
  have HG := Lib.hid hg
  clear hg
  have c0 : W1.cell? ⟨g, 0, none⟩ = some (.slice A ms.length c) := cell_of_row _ _ 0 _ _ (0, 0) K0.out
  have hgl := cell_lt c0
  have hmin : ¬ (10 : Int) < (ms.length : Int) := by omega
  go_wp2_with fail
  all_goals
    go_loopw [10] (fun t W => ∃ k : Nat, k ≤ ms.length ∧ t = .int .i64 k ∧ Hid (∀ i, i < k → s.testBit i = false → blkM d ms s i = false) ∧ Hid (Below W1.heap.size W1 W)) (fun t _ => ms.length - (intOf t).toNat)
    case atStart => exact ⟨0, by omega, rfl, Lib.hid (fun i hi => by omega), Lib.hid (bref _)⟩
    case round =>
      obtain ⟨k, hk, rfl, hNo, hB⟩ := hrel
      have c1 := (hB.out.cell hgl).trans c0
      by_cases hlt : k < ms.length
      · have hki : (k : Int) < (ms.length : Int) := by omega
        have hbit := hasB_bit hs (show k < 10 by omega)
        cases hb : s.testBit k
        · rw [hb] at hbit
          go_wp2_with fail
          refine (has_run _ _ _).mono ?_
          rintro e w2 ⟨rfl, rfl⟩
          rw [hbit]
          go_wp2_with fail
          refine (blocks_run _ d ms _ k s _ hl hs (by omega) (H.out.below hB.out)).mono ?_
          rintro e W3 ⟨rfl, hb3⟩
          have HB3 := Lib.hid (bstep hB.out hb3)
          clear hb3 c1
          cases hbl : blkM d ms s k
          · have HN2 := Lib.hid (show ∀ i, i < k + 1 → s.testBit i = false → blkM d ms s i = false from fun i hi hbi => by
              rcases Nat.lt_or_ge i k with h1 | h1
              · exact hNo.out i h1 hbi
              · obtain rfl : i = k := by omega
                exact hbl)
            clear hbl hb
            go_wp2_with fail
            go_roundw
            case rel => exact ⟨k + 1, by omega, by go_num, HN2, HB3⟩
            case measure => simp [intOf]; omega
          · have HF := Lib.hid (show FOk d ms s (k : Int) from .inl ⟨k, rfl, hlt, hb, hbl⟩)
            clear hbl hb
            go_wp2_with fail
            go_ret
            exact ⟨k, rfl, HF.out, by
              have h1 := HB.out
              rw [← HG.out] at h1
              exact bstep h1 HB3.out⟩
        · rw [hb] at hbit
          have HN2 := Lib.hid (show ∀ i, i < k + 1 → s.testBit i = false → blkM d ms s i = false from fun i hi hbi => by
            rcases Nat.lt_or_ge i k with h1 | h1
            · exact hNo.out i h1 hbi
            · obtain rfl : i = k := by omega
              rw [hb] at hbi; cases hbi)
          clear hb
          go_wp2_with fail
          refine (has_run _ _ _).mono ?_
          rintro e w2 ⟨rfl, rfl⟩
          rw [hbit]
          clear c1
          go_wp2_with fail
          go_roundw
          case rel => exact ⟨k + 1, by omega, by go_num, HN2, hB⟩
          case measure => simp [intOf]; omega
      · obtain rfl : k = ms.length := by omega
        have HF := Lib.hid (show FOk d ms s (-1) from .inr ⟨rfl, fun i hi hbi => hNo.out i hi hbi⟩)
        go_wp2_with fail
        go_ret
        exact ⟨-1, rfl, HF.out, by
          have h1 := HB.out
          rw [← HG.out] at h1
          exact bstep h1 hB.out⟩

set_option maxRecDepth 100000 in
set_option maxHeartbeats 4000000 in
theorem cascade_run (P : Nat → Prop) (d : Nat) (ms : List Mem) (v : Value) (s : Nat) (w : World) (hl : ms.length ≤ 10) (hs : s < 1024) (h : MemsAt P d w v ms) :
    Calls Try.prog 26 #[.agg #[v], .int .i64 (s : Int)] w fun e w' => ∃ (gv : Value) (gs : List Int) (C : Nat), e = .returned (.tuple #[gv, .int .i64 (C : Int)]) ∧ NodesAt (fun b => w.heap.size ≤ b) w' gv gs ∧ C < 1024 ∧ gs.length ≤ 1023 ∧ CasR d ms s gs C ∧ IsCas d ms s C ∧ Below w.heap.size w w' := by
  obtain ⟨A, c, rfl⟩ := h.slice
  obtain ⟨i0, hin, hz0, hz1, hz2⟩ := info_parts infoInt
  have hb1 : Below w.heap.size w (w.alloc (.cells #[.slice A ms.length c] 27)) := balloc (bref w) _
  have k0 : (w.alloc (.cells #[.slice A ms.length c] 27)).heap[w.heap.size]? = some (.cells #[.slice A ms.length c] 27 (0, 0)) := alloc_at rfl
  have H := Lib.hid (h.below hb1)
  have HB := Lib.hid hb1
  have K0 := Lib.hid k0
  have hsv := Lib.hid (show setB (s : Int) = true from setB_iff.2 ⟨by omega, by omega⟩)
  clear h hb1 k0
  go_enter Try.func26, Try.ntmps26
  go_upto_region 1 with fail
  generalize w.alloc (.cells #[.slice A ms.length c] 27) = W1 at *
  generalize hg : w.heap.size = g at *
  have HG := Lib.hid hg
  clear hg
  have c0 : W1.cell? ⟨g, 0, none⟩ = some (.slice A ms.length c) := cell_of_row _ _ 0 _ _ (0, 0) K0.out
  have hgl := cell_lt c0
  go_wp2_with fail
  refine (setValid_run _ _).mono ?_
  rintro e w2 ⟨rfl, rfl⟩
  rw [hsv.out]
  go_wp2_with fail
  refine (following_run _ d ms _ s _ hl hs H.out).mono ?_
  rintro e W3 ⟨K, rfl, hK, hb3⟩
  have HK := Lib.hid hK
  have HB3 := Lib.hid hb3
  clear hK hb3 c0
  go_wp2_with fail
  go_loopw [1, 6, 7] (fun r gv kv W => ∃ (have_ : Nat) (gs : List Int) (K : Int) (gw : Value), r = .int .i64 (have_ : Int) ∧ gv = gw ∧ kv = .int .i64 K ∧ W.ownsRow W1.heap.size 3 1 gw gs.length (gs.map (Value.int .i64)) ∧ Hid (CasAt d ms s gs have_) ∧ Hid (FOk d ms have_ K) ∧ Hid (Below W1.heap.size W1 W)) (fun r _ _ _ => 1024 - (intOf r).toNat)
  case atStart => exact ⟨s, [], K, .slice none 0 0, rfl, rfl, rfl, World.ownsRow_nil _ _ _ _, Lib.hid (CasAt.first hs), HK, HB3⟩
  case round =>
    obtain ⟨r, gs, K, gw, rfl, rfl, rfl, hown, hE, hKo, hB⟩ := hrel
    have hrl := hE.out.lt
    have hlen := hE.out.len
    rcases hKo.out with ⟨k, rfl, hk, hbit, hu⟩ | ⟨rfl, hcl⟩
    · have hE2 := hE.out.step hl hk hbit hu
      have hgr := or_grows hbit
      have HOR := Lib.hid (shl_or r k (by omega) (by omega))
      have HE2 := Lib.hid hE2
      have hr2 := hE2.lt
      have hk0 : (0 : Int) ≤ (k : Int) := by omega
      have hbs := hB.out.size
      clear hE2 hbit hu hKo
      go_wp2_with (at_builtin; refine wpList_append_own _ rfl _ _ 22 rfl W1.heap.size 3 i0 (.int .i64 0) 1 8 Try.underlying22 hin hz0 hz1 hz2 rfl (by decide) _ _ _ rfl (hown.alloc _) ⟨wr.heap.size, 0, none⟩ 1 1 [.int .i64 (k : Int)] rfl rfl (cell_one_new _ _ _) (fun u hu => by simp at hu; subst hu; rfl) (by unfold maxLen; omega) (by omega) (by simp; omega) ?_; intro v' w1 hown' hgrow hnil; have c1 : w1.cell? ⟨g, 0, none⟩ = some (.slice A ms.length c) := ((Below.grown (balloc hB.out (.cells #[.int .i64 (k : Int)] 3)) hgrow (by simp; omega) (fun j hj => (hown.lt j hj).1)).cell hgl).trans (cell_of_row _ _ 0 _ _ (0, 0) K0.out))
      have HO := Lib.hid (own_snoc hown')
      have HB4 := Lib.hid (Below.grown (balloc hB.out (.cells #[.int .i64 (k : Int)] 3)) hgrow (by simp; omega) (fun j hj => (hown.lt j hj).1))
      clear hown' hgrow hnil hown
      rw [HOR.out]
      refine (following_run _ d ms _ (r ||| 2 ^ k) _ hl hr2 (H.out.below HB4.out)).mono ?_
      rintro e W5 ⟨K2, rfl, hK2, hb5⟩
      have HK2 := Lib.hid hK2
      have HB5 := Lib.hid (bstep HB4.out hb5)
      have HO5 := Lib.hid (own_bel HO.out hb5)
      clear hK2 hb5 c1
      generalize r ||| 2 ^ k = r2 at *
      go_wp2_with fail
      go_roundw
      case rel => exact ⟨r2, gs ++ [(k : Int)], K2, _, rfl, rfl, rfl, by simpa using HO5.out, HE2, HK2, HB5⟩
      case measure => simp [intOf]; omega
    · have his := hE.out.is hcl
      have hcas := hE.out.cas
      have HN := Lib.hid (NodesAt.of_own hown)
      have hneg : ¬ (0 : Int) ≤ -1 := by omega
      have hN := nodes_imp (Q := fun b => w.heap.size ≤ b) HN.out (fun k hP => by have h1 := HG.out; have := HB.out; have := hgl; omega)
      have hBw : Below w.heap.size w wr := by
        have h1 := HB.out
        rw [← HG.out] at h1
        exact bstep h1 hB.out
      have HF := Lib.hid (And.intro hN (And.intro hrl (And.intro (show gs.length ≤ 1023 by omega) (And.intro hcas (And.intro his hBw)))))
      clear his hcas hown HN hcl hKo hE hN hBw
      go_wp2_with fail
      go_ret2
      exact ⟨_, gs, r, rfl, HF.out⟩

end Go.Proofs.Ytnfdacfhhkahhaa

namespace Go.Proofs.Ytnfdacfhhkahhaa
set_option linter.unusedVariables false
set_option linter.unusedSimpArgs false
open Go.RowKit

theorem rb_fact (s k : Nat) (hs : s < 1024) (hk : k < 10) : bits .or .i64 (IntKind.i64.wrap (1023 - (s : Int))) (IntKind.i64.wrap (2 ^ k)) = ((1023 - offS s k : Nat) : Int) := by
  have all : ∀ s : Fin 1024, ∀ k : Fin 10, bits .or .i64 (IntKind.i64.wrap (1023 - (s.val : Int))) (IntKind.i64.wrap (2 ^ k.val)) = ((1023 - offS s.val k.val : Nat) : Int) := by decide +kernel
  exact all ⟨s, hs⟩ ⟨k, hk⟩

theorem blk_sat (d : Nat) (T : Tree) {o : Nat} (ho : o < 1024) : blkB d T (o : Int) = !satB d T ((1023 - o : Nat) : Int) := by
  unfold blkB satB
  rw [setB_iff.2 ⟨by omega, by omega⟩, setB_iff.2 ⟨by omega, by omega⟩, Bool.true_and, Bool.true_and, show ((1023 - o : Nat) : Int) = 1023 - (o : Int) by omega]

end Go.Proofs.Ytnfdacfhhkahhaa

namespace Go.Proofs.Ytnfdacfhhkahhaa
set_option linter.unusedVariables false
set_option linter.unusedSimpArgs false
open Go.RowKit

theorem allL_of {ls hs : List Mem} {s : Nat} {L : List Nat} (hp : PairM ls hs) (hl : ls.length ≤ 10) (h : AllIs s ls hs L) : AllL (fOf ls) (fOf hs) (declS ls ls.length) ls.length s L := fun t => by
  have p10 := pow_1024 hl
  rw [h.2.2 t]
  constructor
  · rintro ⟨h1, h2, h3⟩; exact ⟨h1, h2, (good_iff hp hl (by omega)).1 h3⟩
  · rintro ⟨h1, h2, h3⟩; exact ⟨h1, h2, (good_iff hp hl (by omega)).2 h3⟩

theorem ofIs_iff {ls hs : List Mem} {s a : Nat} (hp : PairM ls hs) (hl : ls.length ≤ 10) (hs2 : s < 2 ^ ls.length) (h : OfIs s ls hs a) :
    (¬ IntB (fOf ls) (declS ls ls.length) s ∧ a = 0) ∨ (IntB (fOf ls) (declS ls ls.length) s ∧ ∃ L, AllL (fOf ls) (fOf hs) (declS ls ls.length) ls.length s L ∧ AllIs s ls hs L ∧ a = outS ls.length (bfold ls.length L)) := by
  have p10 := pow_1024 hl
  rcases h with ⟨h1, h2⟩ | ⟨h1, L, h2, h3⟩
  · exact .inl ⟨fun h => h1 ((inT_iff hl (by omega) hp.okl).2 h), h2⟩
  · exact .inr ⟨(inT_iff hl (by omega) hp.okl).1 h1, L, allL_of hp hl h2, h2, h3⟩

theorem out_out {n b : Nat} (h : b < 2 ^ n) : outS n (outS n b) = b := by
  apply Nat.eq_of_testBit_eq
  intro k
  rw [outS_bit, outS_bit]
  cases hb : b.testBit k
  · cases decide (k < n) <;> rfl
  · rw [decide_eq_true (lt_bit h hb)]; rfl

theorem out_sub {n a b : Nat} (h : Sub a b) : Sub (outS n b) (outS n a) := fun k hk => by
  rw [outS_bit, Bool.and_eq_true, Bool.not_eq_true'] at hk ⊢
  refine ⟨hk.1, ?_⟩
  cases ha : a.testBit k
  · rfl
  · rw [h k ha] at hk; cases hk.2

/-- No set disjoint from a quorum blocks one of its members. -/
theorem blk_no {ms : List Mem} {D a x k : Nat} (hl : ms.length ≤ 10) (hD : declS ms ms.length = D) (hq : QB (fOf ms) D 0 a) (hk : a.testBit k = true) (hx : x < 1024) (hd : ∀ j, a.testBit j = true → x.testBit j = false) : blkM 3 ms x k = false := by
  have ho : offS x k < 1024 := offS_lt hx
  have h1 := (hq.2.2 k hk).2.2
  rw [Nat.or_zero] at h1
  unfold fOf at h1
  rw [sat_of hq.2.1] at h1
  have h2 : holdsT 3 (hasB (1023 - ((offS x k : Nat) : Int))) (trOf ms k) = true := holdsT_monoA (fun j hj => by
    rw [hasB_compl ho]
    unfold hasB at hj
    rw [Bool.and_eq_true, Bool.and_eq_true] at hj
    have h4 : a.testBit j.toNat = true := by simpa using hj.2.2
    rw [hj.2.1, Bool.true_and, Bool.not_eq_true', offS_bit, hd _ h4]; rfl) 3 _ h1
  unfold blkM blkB
  rw [h2]
  simp

/-- The intact members are a quorum of both. -/
theorem of_quorum {ls hs : List Mem} {s a : Nat} (hp : PairM ls hs) (hl : ls.length ≤ 10) (hs2 : s < 2 ^ ls.length) (h : OfIs s ls hs a) (h0 : a ≠ 0) : QB (fOf hs) (declS ls ls.length) 0 a ∧ QB (fOf ls) (declS ls ls.length) 0 a := by
  rcases ofIs_iff hp hl hs2 h with ⟨_, h2⟩ | ⟨h1, L, h2, _, rfl⟩
  · exact absurd h2 h0
  · have h3 := int_quorum (pairF hp hl) hs2 h1 h2 h0
    exact ⟨h3, quorum_low (pairF hp hl) h3⟩

theorem of_blocks {ls hs : List Mem} {s a k x : Nat} (hp : PairM ls hs) (hl : ls.length ≤ 10) (hs2 : s < 2 ^ ls.length) (h : OfIs s ls hs a) (hk : a.testBit k = true) (hx : x < 1024) (hd : ∀ j, a.testBit j = true → x.testBit j = false) : blkM 3 ls x k = false ∧ blkM 3 hs x k = false := by
  have h0 : a ≠ 0 := by rintro rfl; simp at hk
  have h1 := of_quorum hp hl hs2 h h0
  exact ⟨blk_no hl rfl h1.2 hk hx hd, blk_no (by rw [hp.len]; exact hl) hp.decl h1.1 hk hx hd⟩

theorem of_less {ls hs : List Mem} {s t a b : Nat} (hp : PairM ls hs) (hl : ls.length ≤ 10) (hs2 : s < 2 ^ ls.length) (ht2 : t < 2 ^ ls.length) (hst : Sub s t) (h : OfIs s ls hs a) (h' : OfIs t ls hs b) (h0 : a ≠ 0) : b &&& a = b := by
  rcases ofIs_iff hp hl hs2 h with ⟨_, h2⟩ | ⟨h1, L, h2, _, rfl⟩
  · exact absurd h2 h0
  · rcases ofIs_iff hp hl ht2 h' with ⟨_, rfl⟩ | ⟨h1', L', h2', _, rfl⟩
    · simp
    · exact and_self_sub.2 (out_sub (bf_mono hst h2 h2'))

theorem of_again {ls hs : List Mem} {s a c : Nat} (hp : PairM ls hs) (hl : ls.length ≤ 10) (hs2 : s < 2 ^ ls.length) (h : OfIs s ls hs a) (h0 : a ≠ 0) (h' : OfIs (outS ls.length a) ls hs c) : c = a := by
  rcases ofIs_iff hp hl hs2 h with ⟨_, h2⟩ | ⟨h1, L, h2, _, rfl⟩
  · exact absurd h2 h0
  · rw [out_out (bf_lt _ _)] at h'
    have h3 := bf_int (pairF hp hl) hs2 h1 h2
    rcases ofIs_iff hp hl (bf_lt _ _) h' with ⟨h4, _⟩ | ⟨_, L', h4, _, rfl⟩
    · exact absurd h3 h4
    · rw [bf_again (pairF hp hl) hs2 h1 h2 h4]

theorem of_uniq {ls hs : List Mem} {s a b : Nat} (hp : PairM ls hs) (hl : ls.length ≤ 10) (h : OfIs s ls hs a) (h' : OfIs s ls hs b) : a = b := by
  rcases h with ⟨h1, rfl⟩ | ⟨h1, L, h2, rfl⟩ <;> rcases h' with ⟨h1', rfl⟩ | ⟨h1', L', h2', rfl⟩
  · rfl
  · exact absurd h1' h1
  · exact absurd h1 h1'
  · rw [asc_ext h2.1 h2'.1 (fun t => by rw [h2.2.2 t, h2'.2.2 t])]

end Go.Proofs.Ytnfdacfhhkahhaa
