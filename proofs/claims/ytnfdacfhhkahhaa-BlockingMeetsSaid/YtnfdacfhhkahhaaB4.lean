/- What the laws of this seat share: part 4. -/
import Derived.Test.YtnfdacfhhkahhaaB3
import Derived.Laws.CopyOwn
import Derived.Deep.RegionLaw
import Derived.IntWalk

namespace Go.Proofs.Ytnfdacfhhkahhaa
set_option linter.unusedVariables false
set_option linter.unusedSimpArgs false
open Go Go.RowKit

theorem run_copy_rowM {P : Program} (w : World) (dT sT ty elem : TypeId) (m g o dLen dCap : Nat) (a : Addr) (sLen sCap : Nat) (cur : Array Value) (t : TypeId) (cs : List Value)
    (hu : P.underlying dT = some (.slice elem)) (hs : (P.info? elem).map (·.size) = some m)
    (hg : w.heap[g]? = some (.cells cur t (0, 0))) (hn : cs.length = Nat.min sLen dLen * m)
    (hsrc : ∀ j v, cs[j]? = some v → w.cell? (a.add j) = some v) (hfit : o + cs.length ≤ cur.size) (h1 : ∀ v ∈ cs, v.oneCell' = true) :
    (Builtin.copy_ #[dT, sT] ty #[.slice (some ⟨g, o, none⟩) dLen dCap, .slice (some a) sLen sCap]).run P w =
      .ok (goInt (Nat.min sLen dLen)) (w.setRow g (cur.toList.take o ++ cs ++ cur.toList.drop (o + cs.length)).toArray) := by
  have hl := run_loadCells_list (P := P) w a cs hsrc
  have hst := run_storeCells_at P g o t cs 0 cur w hg (by simpa using hfit) h1
  cases hq : P.info? elem with
  | none => simp [hq] at hs
  | some i =>
    have hi : i.size = m := by simpa [hq] using hs
    simp [Builtin.copy_, run_underlying hu, Builtin.lenOf, Builtin.firstCells, sizeOf, typeInfo, hq, hi, ← hn, hl, hst]

theorem run_copy_noneM {P : Program} (w : World) (dT sT ty elem : TypeId) (m : Nat) (d a : Option Addr) (dLen dCap sLen sCap : Nat) (hu : P.underlying dT = some (.slice elem)) (hs : (P.info? elem).map (·.size) = some m) (hn : Nat.min sLen dLen = 0) :
    (Builtin.copy_ #[dT, sT] ty #[.slice d dLen dCap, .slice a sLen sCap]).run P w = .ok (goInt 0) w := by
  cases hq : P.info? elem with
  | none => simp [hq] at hs
  | some i =>
    have hl : ∀ (x : Addr), (loadCells x 0).run P w = .ok #[] w := fun x => by simpa using run_loadCells_list (P := P) w x [] (by simp)
    cases d <;> cases a <;> simp [Builtin.copy_, run_underlying hu, Builtin.lenOf, Builtin.firstCells, sizeOf, typeInfo, hq, hn, storeCells, hl]

theorem step_copy_spliceM {P : Program} {ops : Array Oper} {o : Oper} {a : Act} {w : World} {K : Act → World → Prop} {Q : Exit → Act → World → Prop} {E : Prop} (hgd : o.guard = none) (d s : Operand) (dT sT : TypeId)
    (ho : o.op = .call { callee := .builtin .copy, args := #[d, s], argTypes := #[dT, sT] }) (elem : TypeId) (m : Nat) (hm : 0 < m) (hu : P.underlying dT = some (.slice elem)) (hsz : (P.info? elem).map (·.size) = some m)
    (dp sp : Option Addr) (dLen dCap sLen sCap : Nat) (hd : a.eval d = .slice dp dLen dCap) (hs : a.eval s = .slice sp sLen sCap)
    (g off : Nat) (cur : List Value) (t : TypeId) (hg : w.heap[g]? = some (.cells cur.toArray t (0, 0))) (cs : List Value) (N : Nat) (hN : N = Nat.min sLen dLen) (hn : cs.length = N * m)
    (hpos : 0 < cs.length → dp = some ⟨g, off, none⟩ ∧ ∃ ad, sp = some ad ∧ ∀ j v, cs[j]? = some v → w.cell? (ad.add j) = some v)
    (hfit : off + cs.length ≤ cur.length) (h1 : ∀ v ∈ cs, v.oneCell' = true) (B : Nat) (w0 : World) (hb : RowKit.Below B w0 w) (hBg : B ≤ g)
    (h : ∀ w', RowKit.Hid (w'.heap[g]? = some (.cells (splice cur off cs).toArray t (0, 0))) → RowKit.Below B w0 w' → (∀ q, q ≠ g → w'.heap[q]? = w.heap[q]?) → K (a.put o.dst (goInt N)) w') :
    if Region.wanted o (yielded ops a.tmps) = true then Oper.wp P o a w K Q else E := by
  have hw : Region.wanted o (yielded ops a.tmps) = true := by simp [Region.wanted, hgd]
  rw [if_pos hw]
  by_cases h0 : cs.length = 0
  · obtain rfl : cs = [] := List.eq_nil_of_length_eq_zero h0
    have hN0 : N = 0 := by
      rcases Nat.mul_eq_zero.1 (hn.symm.trans rfl : N * m = 0) with h2 | h2
      · exact h2
      · omega
    subst hN0
    have hrun := run_copy_noneM (P := P) w dT sT o.type elem m dp sp dLen dCap sLen sCap hu hsz hN.symm
    unfold Oper.wp
    simp [execOp, ho, resolve, invoke, builtin, hd, hs, hrun, Result.andThen]
    exact h w (show _ = _ by simpa [splice] using hg) hb (fun _ _ => rfl)
  · obtain ⟨rfl, ad, rfl, hsrc⟩ := hpos (by omega)
    have hrun := run_copy_rowM (P := P) w dT sT o.type elem m g off dLen dCap ad sLen sCap cur.toArray t cs hu hsz hg (by rw [hn, hN]) hsrc (by simpa using hfit) h1
    rw [← hN] at hrun
    unfold Oper.wp
    simp [execOp, ho, resolve, invoke, builtin, hd, hs, hrun, Result.andThen]
    exact h _ (show _ = _ by simpa [splice] using setRow_heap w g _ _ t _ hg) (below_setRow hb hBg _) (fun q hq => setRow_other w g q _ hq)

end Go.Proofs.Ytnfdacfhhkahhaa

namespace Go.Proofs.Ytnfdacfhhkahhaa
set_option linter.unusedVariables false
set_option linter.unusedSimpArgs false
open Go.RowKit

/-- The cells of some trusts. -/
def cell3 (l : List (Value × Value × Value)) : List Value := l.flatMap (fun x => [x.1, x.2.1, x.2.2])

theorem cell3_len : ∀ (l : List (Value × Value × Value)), (cell3 l).length = l.length * 3
  | [] => rfl
  | x :: l => by
    have := cell3_len l
    unfold cell3 at *
    rw [List.flatMap_cons, List.length_append, this]
    simp; omega

theorem cell3_app (l m : List (Value × Value × Value)) : cell3 (l ++ m) = cell3 l ++ cell3 m := by unfold cell3; rw [List.flatMap_append]

theorem cell3_take : ∀ (l : List (Value × Value × Value)) (k : Nat), (cell3 l).take (k * 3) = cell3 (l.take k)
  | [], k => by simp [cell3]
  | x :: l, 0 => by simp [cell3]
  | x :: l, k + 1 => by
    have ih := cell3_take l k
    unfold cell3 at *
    rw [List.flatMap_cons, List.take_succ_cons, List.flatMap_cons, show (k + 1) * 3 = 3 + k * 3 by omega, ← ih]
    rw [List.take_append, List.take_of_length_le (by simp)]
    simp

theorem cell3_drop (l : List (Value × Value × Value)) (k : Nat) (hk : k ≤ l.length) : (cell3 l).drop (k * 3) = cell3 (l.drop k) := by
  have h : cell3 l = cell3 (l.take k) ++ cell3 (l.drop k) := by rw [← cell3_app, List.take_append_drop]
  rw [h, List.drop_append]
  have h2 : (cell3 (l.take k)).length = k * 3 := by rw [cell3_len, List.length_take, Nat.min_eq_left hk]
  rw [List.drop_of_length_le (by omega), h2, Nat.sub_self, List.drop_zero, List.nil_append]

theorem cell3_get : ∀ (l : List (Value × Value × Value)) (k : Nat) (x : Value × Value × Value), l[k]? = some x → (cell3 l)[k * 3]? = some x.1 ∧ (cell3 l)[k * 3 + 1]? = some x.2.1 ∧ (cell3 l)[k * 3 + 2]? = some x.2.2
  | [], k, x, h => by cases h
  | y :: l, 0, x, h => by
    cases h
    unfold cell3
    rw [List.flatMap_cons]
    simp
  | y :: l, k + 1, x, h => by
    have ih := cell3_get l k x (by simpa using h)
    unfold cell3 at *
    rw [List.flatMap_cons]
    refine ⟨?_, ?_, ?_⟩
    · rw [List.getElem?_append_right (by simp; omega)]; simpa [show (k + 1) * 3 - 3 = k * 3 by omega] using ih.1
    · rw [List.getElem?_append_right (by simp; omega)]; simpa [show (k + 1) * 3 + 1 - 3 = k * 3 + 1 by omega] using ih.2.1
    · rw [List.getElem?_append_right (by simp; omega)]; simpa [show (k + 1) * 3 + 2 - 3 = k * 3 + 2 by omega] using ih.2.2

/-- A row of trusts of its own, from B on, with what it refers to in blocks of Q. -/
def TRow (Q : Nat → Prop) (B d : Nat) (W : World) (v : Value) (ts : List Tree) : Prop :=
  ∃ l : List (Value × Value × Value), l.length = ts.length ∧ W.ownsRow B 32 3 v ts.length (cell3 l) ∧ ∀ (k : Nat) (x : Value × Value × Value) (T : Tree), l[k]? = some x → ts[k]? = some T → TAt Q d W x.1 x.2.1 x.2.2 T

theorem TRow.nil (Q : Nat → Prop) (B d : Nat) (W : World) : TRow Q B d W (.slice none 0 0) [] := ⟨[], rfl, World.ownsRow_nil _ _ _ _, fun k x T h => by cases h⟩

theorem TRow.own {Q : Nat → Prop} {B d : Nat} {W : World} {v : Value} {ts : List Tree} (h : TRow Q B d W v ts) : ∀ j, v.ownBlock = some j → B ≤ j ∧ j < W.heap.size := by
  obtain ⟨l, _, h1, _⟩ := h
  exact h1.lt

theorem TRow.below {Q : Nat → Prop} {B d : Nat} {W W' : World} {v : Value} {ts : List Tree} (h : TRow Q B d W v ts) (hb : Below W.heap.size W W') : TRow Q B d W' v ts := by
  obtain ⟨l, h0, h1, h2⟩ := h
  exact ⟨l, h0, own_bel h1 hb, fun k x T hx hT => (h2 k x T hx hT).below hb⟩

theorem TRow.listP {Q R : Nat → Prop} {B d : Nat} {W : World} {v : Value} {ts : List Tree} (h : TRow Q B d W v ts) (hQ : ∀ b, Q b → R b) (hB : ∀ b, B ≤ b → R b) : ListT R d W v ts := by
  obtain ⟨l, h0, h1, h2⟩ := h
  rcases h1.2 with ⟨hv, hn⟩ | ⟨g, cap, cur, hv, hb, _⟩
  · exact ⟨none, 0, by rw [hv, hn], fun k T hT => by have := (List.getElem?_eq_some_iff.1 hT).1; omega⟩
  · refine ⟨some ⟨g, 0, none⟩, cap, hv, fun k T hT => ?_⟩
    obtain ⟨x, hx⟩ : ∃ x, l[k]? = some x := ⟨_, List.getElem?_eq_getElem (by rw [h0]; exact (List.getElem?_eq_some_iff.1 hT).1)⟩
    obtain ⟨e0, e1, e2⟩ := cell3_get l k x hx
    have c : ∀ j u, (cell3 l)[j]? = some u → W.cell? ⟨g, 0 + j, none⟩ = some u := fun j u hu => by
      have := h1.cells (g := g) (by rw [hv]; rfl) j u hu
      rwa [Addr.add_lit] at this
    exact ⟨g, 0, x.1, x.2.1, x.2.2, rfl, hB g hb, c _ _ e0, by rw [Nat.add_assoc]; exact c _ _ e1, by rw [Nat.add_assoc]; exact c _ _ e2, (h2 k x T hx hT).imp (fun b _ h => hQ b h)⟩

theorem TRow.list {Q : Nat → Prop} {B d : Nat} {W : World} {v : Value} {ts : List Tree} (h : TRow Q B d W v ts) : ListT (fun _ => True) d W v ts := h.listP (fun _ _ => trivial) (fun _ _ => trivial)

/-- One element is put in at k. -/
theorem ins3 {α : Type} (X : List α) (z0 z1 z2 a b c : α) (K : Nat) (hK : K ≤ X.length) :
    ((((X ++ [z0, z1, z2]).take (K + 3) ++ X.drop K).set K a).set (K + 1) b).set (K + 2) c = X.take K ++ a :: b :: c :: X.drop K := by
  have h1 : (X ++ [z0, z1, z2]).take (K + 3) = X.take K ++ (X.drop K ++ [z0, z1, z2]).take 3 := by
    have e : X ++ [z0, z1, z2] = X.take K ++ (X.drop K ++ [z0, z1, z2]) := by rw [← List.append_assoc, List.take_append_drop]
    rw [e, List.take_append]
    rw [List.length_take, Nat.min_eq_left hK, List.take_of_length_le (by rw [List.length_take]; omega)]
    simp
  obtain ⟨r0, r1, r2, hr⟩ : ∃ r0 r1 r2, (X.drop K ++ [z0, z1, z2]).take 3 = [r0, r1, r2] := by
    have hl : ((X.drop K ++ [z0, z1, z2]).take 3).length = 3 := by rw [List.length_take, List.length_append]; simp
    generalize (X.drop K ++ [z0, z1, z2]).take 3 = R at hl
    match R, hl with
    | [a, b, c], _ => exact ⟨a, b, c, rfl⟩
  rw [h1, hr]
  have hl : (X.take K).length = K := by rw [List.length_take, Nat.min_eq_left hK]
  generalize X.take K = Y at hl
  subst hl
  rw [List.append_assoc, List.set_append_right _ _ (Nat.le_refl _), List.set_append_right _ _ (by omega), List.set_append_right _ _ (by omega)]
  simp

theorem cell3_ins (l : List (Value × Value × Value)) (x : Value × Value × Value) (k : Nat) (hk : k ≤ l.length) : (cell3 l).take (k * 3) ++ x.1 :: x.2.1 :: x.2.2 :: (cell3 l).drop (k * 3) = cell3 (l.take k ++ x :: l.drop k) := by
  rw [cell3_take, cell3_drop l k hk, cell3_app]
  congr 1

theorem get_ins {α : Type} {l : List α} {x : α} {k : Nat} (hk : k ≤ l.length) (j : Nat) : (l.take k ++ x :: l.drop k)[j]? = if j < k then l[j]? else if j = k then some x else l[j - 1]? := by
  have hl : (l.take k).length = k := by rw [List.length_take, Nat.min_eq_left hk]
  by_cases h1 : j < k
  · rw [if_pos h1, List.getElem?_append_left (by omega), List.getElem?_take, if_pos h1]
  · rw [if_neg h1, List.getElem?_append_right (by omega), hl]
    by_cases h2 : j = k
    · rw [if_pos h2, h2, Nat.sub_self]; rfl
    · rw [if_neg h2]
      obtain ⟨i, rfl⟩ : ∃ i, j = k + 1 + i := ⟨j - k - 1, by omega⟩
      rw [show k + 1 + i - k = i + 1 by omega, List.getElem?_cons_succ, List.getElem?_drop, show k + 1 + i - 1 = k + i by omega]

theorem mem_ins {α : Type} {l : List α} {x y : α} {k : Nat} : y ∈ l.take k ++ x :: l.drop k ↔ y = x ∨ y ∈ l := by
  constructor
  · intro h
    rcases List.mem_append.1 h with h | h
    · exact .inr (List.mem_of_mem_take h)
    · rcases List.mem_cons.1 h with h | h
      · exact .inl h
      · exact .inr (List.mem_of_mem_drop h)
  · rintro (h | h)
    · exact List.mem_append.2 (.inr (List.mem_cons.2 (.inl h)))
    · rw [← List.take_append_drop k l] at h
      rcases List.mem_append.1 h with h | h
      · exact List.mem_append.2 (.inl h)
      · exact List.mem_append.2 (.inr (List.mem_cons.2 (.inr h)))

theorem len_ins {α : Type} {l : List α} {x : α} {k : Nat} (hk : k ≤ l.length) : (l.take k ++ x :: l.drop k).length = l.length + 1 := by
  rw [List.length_append, List.length_cons, List.length_take, List.length_drop]; omega

/-- The first i trusts, each once. -/
structure DiffOf (ts : List Tree) (i : Nat) (ds : List Tree) : Prop where
  sub : ∀ d ∈ ds, d ∈ ts.take i
  all : ∀ t ∈ ts.take i, t ∈ ds
  len : ds.length ≤ i

theorem DiffOf.zero (ts : List Tree) : DiffOf ts 0 [] := ⟨fun d h => by simp at h, fun t h => by simp at h, by simp⟩

theorem take_mem_succ {ts : List Tree} {i : Nat} {t y : Tree} (ht : ts[i]? = some t) : y ∈ ts.take (i + 1) ↔ y ∈ ts.take i ∨ y = t := by
  rw [List.take_add_one, ht, List.mem_append]
  simp

theorem DiffOf.skip {ts ds : List Tree} {i : Nat} {t : Tree} (h : DiffOf ts i ds) (ht : ts[i]? = some t) (hm : t ∈ ds) : DiffOf ts (i + 1) ds :=
  ⟨fun d hd => (take_mem_succ ht).2 (.inl (h.sub d hd)), fun y hy => ((take_mem_succ ht).1 hy).elim (h.all y) (fun e => by rw [e]; exact hm), Nat.le_succ_of_le h.len⟩

theorem DiffOf.put {ts ds : List Tree} {i k : Nat} {t : Tree} (h : DiffOf ts i ds) (ht : ts[i]? = some t) (hk : k ≤ ds.length) : DiffOf ts (i + 1) (ds.take k ++ t :: ds.drop k) :=
  ⟨fun d hd => (take_mem_succ ht).2 ((mem_ins.1 hd).elim .inr (fun h2 => .inl (h.sub d h2))), fun y hy => mem_ins.2 (((take_mem_succ ht).1 hy).elim (fun h2 => .inr (h.all y h2)) .inl), by rw [len_ins hk]; have := h.len; omega⟩

end Go.Proofs.Ytnfdacfhhkahhaa

namespace Go.Proofs.Ytnfdacfhhkahhaa
set_option linter.unusedVariables false
set_option linter.unusedSimpArgs false
open Go.RowKit

/-- The box of the trust that is put in. -/
structure BoxD (P : Nat → Prop) (w : World) (g : Nat) (t : Int) (v1 v2 : Value) (T : Tree) (W : World) : Prop where
  box : W.heap[g]? = some (.cells #[.int .i64 t, v1, v2] 32 (0, 0))
  tat : TAt (fun b => P b ∧ b < w.heap.size) 2 W (.int .i64 t) v1 v2 T
  low : w.heap.size ≤ g
  bel : Below w.heap.size w W

theorem BoxD.below {P : Nat → Prop} {w W W' : World} {g : Nat} {t : Int} {v1 v2 : Value} {T : Tree} (h : BoxD P w g t v1 v2 T W) (hb : Below W.heap.size W W') : BoxD P w g t v1 v2 T W' :=
  ⟨(hb.block _ (Array.getElem?_eq_some_iff.1 h.box).1).trans h.box, h.tat.below hb, h.low, bstep h.bel hb⟩

theorem TAt.via {P : Nat → Prop} {w A B : World} {d : Nat} {v0 v1 v2 : Value} {T : Tree} (h : TAt (fun b => P b ∧ b < w.heap.size) d A v0 v1 v2 T) (hA : Below w.heap.size w A) (hB : Below w.heap.size w B) : TAt (fun b => P b ∧ b < w.heap.size) d B v0 v1 v2 T :=
  h.keep (fun k _ hk => (hB.block k hk.2).trans (hA.block k hk.2).symm)

theorem cell3_mem {l : List (Value × Value × Value)} {u : Value} (h : u ∈ cell3 l) : ∃ x ∈ l, u = x.1 ∨ u = x.2.1 ∨ u = x.2.2 := by
  unfold cell3 at h
  obtain ⟨x, hx, hu⟩ := List.mem_flatMap.1 h
  exact ⟨x, hx, by simpa using hu⟩

theorem cell3_one {Q : Nat → Prop} {d : Nat} {W : World} {l : List (Value × Value × Value)} {ds : List Tree} (hl : l.length = ds.length) (h : ∀ (k : Nat) (x : Value × Value × Value) (T : Tree), l[k]? = some x → ds[k]? = some T → TAt Q d W x.1 x.2.1 x.2.2 T) : ∀ u ∈ cell3 l, u.oneCell' = true := fun u hu => by
  obtain ⟨x, hx, he⟩ := cell3_mem hu
  obtain ⟨k, hk, hkx⟩ := List.getElem_of_mem hx
  have h1 : l[k]? = some x := by rw [List.getElem?_eq_getElem hk, hkx]
  obtain ⟨t, A, n, c, B, m, c', e0, e1, e2⟩ := (h k x ds[k] h1 (List.getElem?_eq_getElem (by omega))).form
  rcases he with rfl | rfl | rfl
  · rw [e0]; rfl
  · rw [e1]; rfl
  · rw [e2]; rfl

theorem TRow.ins {P : Nat → Prop} {w W W' : World} {d k : Nat} {v : Value} {l : List (Value × Value × Value)} {ds : List Tree} {x0 x1 x2 : Value} {T : Tree} (hl : l.length = ds.length) (h : ∀ (k : Nat) (x : Value × Value × Value) (T : Tree), l[k]? = some x → ds[k]? = some T → TAt (fun b => P b ∧ b < w.heap.size) d W x.1 x.2.1 x.2.2 T)
    (hk : k ≤ ds.length) (hb : Below w.heap.size w W) (hb' : Below w.heap.size w W') (hT : TAt (fun b => P b ∧ b < w.heap.size) d W x0 x1 x2 T) (hown : W'.ownsRow w.heap.size 32 3 v (ds.length + 1) ((cell3 l).take (k * 3) ++ x0 :: x1 :: x2 :: (cell3 l).drop (k * 3))) :
    TRow (fun b => P b ∧ b < w.heap.size) w.heap.size d W' v (ds.take k ++ T :: ds.drop k) := by
  refine ⟨l.take k ++ (x0, x1, x2) :: l.drop k, by rw [len_ins (by omega), len_ins hk, hl], ?_, fun j x U hx hU => ?_⟩
  · have e := cell3_ins l (x0, x1, x2) k (by omega)
    rw [len_ins hk, ← e]
    exact hown
  · rw [get_ins (by omega)] at hx
    rw [get_ins hk] at hU
    by_cases h1 : j < k
    · rw [if_pos h1] at hx hU
      exact TAt.via (h j x U hx hU) hb hb'
    · rw [if_neg h1] at hx hU
      by_cases h2 : j = k
      · rw [if_pos h2] at hx hU
        cases hx; cases hU
        exact TAt.via hT hb hb'
      · rw [if_neg h2] at hx hU
        exact TAt.via (h _ x U hx hU) hb hb'

def MetP (m : Bool) (T : Tree) (ds : List Tree) : Prop := m = true → T ∈ ds

theorem own_blockM {W : World} {B g n cq m : Nat} {e : TypeId} {xs : List Value} (h : W.ownsRow B e m (.slice (some ⟨g, 0, none⟩) n cq) n xs) : ∃ cur : List Value, W.heap[g]? = some (.cells cur.toArray e (0, 0)) ∧ B ≤ g ∧ n ≤ cq ∧ cq ≤ maxLen ∧ cur.length = cq * m ∧ cur.take (n * m) = xs := by
  rcases h.2 with ⟨h', _⟩ | ⟨g', cap', cur, h', hb, hg, h1, h2, h3, h4⟩
  · simp at h'
  · simp only [Value.slice.injEq, Option.some.injEq, Addr.mk.injEq, and_true, true_and] at h'
    obtain ⟨rfl, rfl⟩ := h'
    exact ⟨cur.toList, by simpa using hg, hb, h1, h2, by simpa using h3, by simpa using h4⟩

theorem src_cellsM {W : World} {B g n cq m : Nat} {e : TypeId} {xs : List Value} (h : W.ownsRow B e m (.slice (some ⟨g, 0, none⟩) n cq) n xs) (k : Nat) : ∀ j v, (xs.drop k)[j]? = some v → W.cell? ((⟨g, k, none⟩ : Addr).add j) = some v := fun j v hv => by
  rw [List.getElem?_drop] at hv
  have h1 := h.cells (g := g) rfl (k + j) v hv
  rw [Addr.add_lit] at h1 ⊢
  simpa using h1

theorem own_splice3 {W : World} {B g n cq k : Nat} {e : TypeId} {cur : List Value} {xs : List Value} {z0 z1 z2 : Value} (hx : xs.length = n * 3) (hk : k ≤ n) (hb : B ≤ g) (h1 : n + 1 ≤ cq) (h2 : cq ≤ maxLen) (h3 : cur.length = cq * 3) (h4 : cur.take ((n + 1) * 3) = xs ++ [z0, z1, z2]) (hg : W.heap[g]? = some (.cells (splice cur ((k + 1) * 3) (xs.drop (k * 3))).toArray e (0, 0))) :
    W.ownsRow B e 3 (.slice (some ⟨g, 0, none⟩) (n + 1) cq) (n + 1) ((xs ++ [z0, z1, z2]).take (k * 3 + 3) ++ xs.drop (k * 3)) := by
  have hd : (xs.drop (k * 3)).length = (n - k) * 3 := by rw [List.length_drop, hx]; omega
  have ht : ((xs ++ [z0, z1, z2]).take (k * 3 + 3)).length = k * 3 + 3 := by rw [List.length_take, List.length_append, hx]; simp; omega
  refine ⟨by rw [List.length_append, hd, ht]; omega, .inr ⟨g, cq, _, rfl, hb, hg, h1, h2, ?_, ?_⟩⟩
  · rw [List.size_toArray, length_splice _ _ _ (by rw [hd]; omega)]; omega
  · rw [← h4]
    show ((splice cur ((k + 1) * 3) (xs.drop (k * 3))).toArray.toList).take ((n + 1) * 3) = _
    unfold splice
    have hc : (cur.take ((k + 1) * 3)).length = (k + 1) * 3 := by rw [List.length_take]; omega
    rw [List.take_take, show min (k * 3 + 3) ((n + 1) * 3) = (k + 1) * 3 by omega, ← List.append_assoc, List.take_append_of_le_length (by rw [List.length_append, hc, hd]; omega)]
    rw [List.take_of_length_le (by rw [List.length_append, hc, hd]; omega)]

set_option maxRecDepth 100000 in
set_option maxHeartbeats 8000000 in
theorem different_run (P : Nat → Prop) (ts : List Tree) (v : Value) (w : World) (hn : ts.length ≤ 3) (h : ListT P 2 w v ts) :
    Calls Try.prog 77 #[v] w fun e w' => ∃ v' ds, e = .returned v' ∧ ListT (fun b => P b ∨ w.heap.size ≤ b) 2 w' v' ds ∧ DiffOf ts ts.length ds ∧ Below w.heap.size w w' := by
  obtain ⟨i0, hi, hz0, hz1, hz2⟩ := info_parts infoTr
  obtain ⟨A, c, rfl⟩ := h.slice
  have H := Lib.hid h
  obtain ⟨n, hnn⟩ : ∃ n, ts.length = n := ⟨_, rfl⟩
  have HNN := Lib.hid hnn
  rw [hnn] at hn H ⊢
  clear h hnn
  go_enter Try.func77, Try.ntmps77
  go_wp2_with fail
  go_loopw [3, 13] (fun u t W => ∃ (i : Nat) (ds : List Tree) (vv : Value), i ≤ n ∧ u = vv ∧ t = .int .i64 i ∧ Hid (TRow (fun b => P b ∧ b < w.heap.size) w.heap.size 2 W vv ds) ∧ Hid (DiffOf ts i ds) ∧ Hid (Below w.heap.size w W)) (fun _ t _ => n - (intOf t).toNat)
  case atStart => exact ⟨0, [], .slice none 0 0, Nat.zero_le _, rfl, rfl, Lib.hid (TRow.nil _ _ _ _), Lib.hid (DiffOf.zero _), Lib.hid (bref _)⟩
  case round =>
    obtain ⟨i, ds, vv, hi2, hv, rfl, hR, hD, hB⟩ := hrel
    replace hv := hv.symm
    subst hv
    by_cases hlt : i < n
    · obtain ⟨T, hT⟩ : ∃ T, ts[i]? = some T := ⟨_, List.getElem?_eq_getElem (by rw [HNN.out]; exact hlt)⟩
      obtain ⟨An, cn, hAn, hLc⟩ := H.out
      injection hAn with q1 q2 q3
      subst q1
      obtain ⟨b, off, x0, x1, x2, rfl, _, e0, e1, e2, hTk⟩ := hLc i T hT
      obtain ⟨t', A1, n1, c1, A2, n2, c2, rfl, rfl, rfl⟩ := hTk.form
      have d0 := (hB.out.cell (cell_lt e0)).trans e0
      have d1 := (hB.out.cell (cell_lt e1)).trans e1
      have d2 := (hB.out.cell (cell_lt e2)).trans e2
      have hTo := ((hTk.imp (Q := fun b => P b ∧ b < w.heap.size) (fun _ hk hP => ⟨hP, hk⟩)).below hB.out).below (balloc (bref wr) (.cells #[.int .i64 t', .slice A1 n1 c1, .slice A2 n2 c2] 32))
      have HX := Lib.hid (show BoxD P w wr.heap.size t' (.slice A1 n1 c1) (.slice A2 n2 c2) T (wr.alloc (.cells #[.int .i64 t', .slice A1 n1 c1, .slice A2 n2 c2] 32)) from ⟨alloc_at rfl, hTo, hB.out.size, balloc hB.out _⟩)
      have HR := Lib.hid (hR.out.below (balloc (bref wr) (.cells #[.int .i64 t', .slice A1 n1 c1, .slice A2 n2 c2] 32)))
      have HTS := Lib.hid hT
      clear e0 e1 e2 hTk hTo hLc q2 q3 hT
      obtain ⟨Ao, co, hvo⟩ : ∃ Ao co, vv = .slice Ao ds.length co := by
        obtain ⟨A', c', h1, _⟩ := hR.out.list
        exact ⟨A', c', h1⟩
      subst hvo
      obtain ⟨no, hno⟩ : ∃ no, ds.length = no := ⟨_, rfl⟩
      have hnol : no ≤ 3 := by have := hD.out.len; omega
      have HNO := Lib.hid hno
      rw [hno] at HR ⊢
      have HOWN := Lib.hid (show ∀ q, (Value.slice Ao no co).ownBlock = some q → q < wr.heap.size from fun q hq => (hR.out.own q (by rw [hno]; exact hq)).2)
      clear hno hR hB
      go_upto_region 5 with fail
      generalize hg5 : wr.heap.size = g5 at *
      generalize (wr.alloc (.cells #[.int .i64 t', .slice A1 n1 c1, .slice A2 n2 c2] 32)) = W3 at *
      clear d0 d1 d2 hg5
      go_wp2_with fail
      go_loopw [6, 7, 19] (fun k m t W => ∃ (j kk : Nat) (mb : Bool), j ≤ no ∧ kk ≤ j ∧ k = .int .i64 kk ∧ m = .bool mb ∧ t = .int .i64 j ∧ Hid (MetP mb T ds) ∧ Hid (Below W3.heap.size W3 W)) (fun _ _ t _ => no - (intOf t).toNat)
      case atStart => exact ⟨0, 0, false, Nat.zero_le _, Nat.le_refl _, rfl, rfl, rfl, Lib.hid (show MetP false T ds from fun h => by cases h), Lib.hid (bref _)⟩
      case round =>
        obtain ⟨j, kk, mb, hj, hkj, rfl, rfl, rfl, hM, hB4⟩ := hrel
        have HX4 := Lib.hid (HX.out.below hB4.out)
        have HR4 := Lib.hid (HR.out.below hB4.out)
        by_cases hlt2 : j < no
        · obtain ⟨l, hl0, hown, hl2⟩ := HR4.out
          obtain ⟨y, hy⟩ : ∃ y, l[j]? = some y := ⟨_, List.getElem?_eq_getElem (by rw [hl0, HNO.out]; exact hlt2)⟩
          obtain ⟨D, hDj⟩ : ∃ D, ds[j]? = some D := ⟨_, List.getElem?_eq_getElem (by rw [HNO.out]; exact hlt2)⟩
          have hTD := hl2 j y D hy hDj
          obtain ⟨f0, f1, f2⟩ := cell3_get l j y hy
          obtain ⟨y0, y1, y2⟩ := y
          obtain ⟨u', B1, m1, z1, B2, m2, z2, rfl, rfl, rfl⟩ := hTD.form
          rcases hown.2 with ⟨hv, h0⟩ | ⟨gb, cap, cur, hv, hbg, _⟩
          · exfalso; rw [HNO.out] at h0; omega
          · have hv' := hv
            injection hv' with v1 v2 v3
            subst v1
            have cc : ∀ q u, (cell3 l)[q]? = some u → wr.cell? ⟨gb, q, none⟩ = some u := fun q u hu => by
              have := hown.cells (g := gb) rfl q u hu
              rwa [Addr.add_lit, Nat.zero_add] at this
            have d0 := cc _ _ f0
            have d1 := cc _ _ f1
            have d2 := cc _ _ f2
            have HMem := Lib.hid (List.mem_of_getElem? hDj)
            have b0 : wr.cell? ⟨g5, 0, none⟩ = some (.int .i64 t') := cell_of_row _ _ 0 _ _ (0, 0) HX4.out.box
            have b1 : wr.cell? ⟨g5, 1, none⟩ = some (.slice A1 n1 c1) := cell_of_row _ _ 1 _ _ (0, 0) HX4.out.box
            have b2 : wr.cell? ⟨g5, 2, none⟩ = some (.slice A2 n2 c2) := cell_of_row _ _ 2 _ _ (0, 0) HX4.out.box
            have HTD := Lib.hid (hTD.below (balloc (bref wr) (.cells #[.int .i64 u', .slice B1 m1 z1, .slice B2 m2 z2] 32)))
            have HTT := Lib.hid (HX4.out.tat.below (balloc (bref wr) (.cells #[.int .i64 u', .slice B1 m1 z1, .slice B2 m2 z2] 32)))
            have HB5 := Lib.hid (balloc hB4.out (.cells #[.int .i64 u', .slice B1 m1 z1, .slice B2 m2 z2] 32))
            have hg5l : g5 < wr.heap.size := (Array.getElem?_eq_some_iff.1 HX4.out.box).1
            clear hl2 hTD f0 f1 f2 hown hv hbg cc hl0 hy hDj v2 v3
            go_wp2_with fail
            refine (tcmp_run 2 _ _ D T _ _ _ _ _ _ _ HTD.out HTT.out).mono ?_
            rintro e w6 ⟨⟨cc, rfl, hcc⟩, hb6⟩
            have HB6 := Lib.hid (bstep HB5.out hb6)
            have HCC := Lib.hid (show cc = 0 → T ∈ ds from fun h => by rw [← hcc h]; exact HMem.out)
            clear hb6 hcc
            rcases (show mb = false ∨ mb = true by cases mb <;> simp) with rfl | rfl
            · by_cases h0 : cc = 0
              · have HM2 := Lib.hid (show MetP true T ds from fun _ => HCC.out h0)
                subst h0
                clear HCC hM
                go_wp2_with fail
                go_roundw
                case rel => exact ⟨j + 1, kk, true, hlt2, by omega, rfl, rfl, by go_num, HM2, HB6⟩
                case measure => simp [intOf]; omega
              · have q0 : (cc == 0) = false := beq_eq_false_iff_ne.2 h0
                by_cases h1 : cc < 0
                · go_wp2_with fail
                  go_roundw
                  case rel => exact ⟨j + 1, j + 1, false, hlt2, Nat.le_refl _, by go_num, rfl, by go_num, hM, HB6⟩
                  case measure => simp [intOf]; omega
                · go_wp2_with fail
                  go_roundw
                  case rel => exact ⟨j + 1, kk, false, hlt2, by omega, rfl, rfl, by go_num, hM, HB6⟩
                  case measure => simp [intOf]; omega
            · by_cases h1 : cc < 0
              · go_wp2_with fail
                go_roundw
                case rel => exact ⟨j + 1, j + 1, true, hlt2, Nat.le_refl _, by go_num, rfl, by go_num, hM, HB6⟩
                case measure => simp [intOf]; omega
              · go_wp2_with fail
                go_roundw
                case rel => exact ⟨j + 1, kk, true, hlt2, by omega, rfl, rfl, by go_num, hM, HB6⟩
                case measure => simp [intOf]; omega
        · obtain rfl : j = no := by omega
          rcases (show mb = true ∨ mb = false by cases mb <;> simp) with rfl | rfl
          · have HD2 := Lib.hid (hD.out.skip HTS.out (hM.out rfl))
            have HBx := Lib.hid HX4.out.bel
            go_wp2_with fail
            go_roundw
            case rel => exact ⟨i + 1, ds, _, hlt, rfl, by go_num, HR4, HD2, HBx⟩
            case measure => simp [intOf]; omega
          · obtain ⟨l, hl0, hown, hl2⟩ := HR4.out
            rw [HNO.out] at hl0 hown
            have HL2 := Lib.hid hl2
            have HL0 := Lib.hid hl0
            have HIN := Lib.hid (hD.out.put HTS.out (k := kk) (by rw [HNO.out]; exact hkj))
            obtain ⟨X, hX⟩ : ∃ X, X = cell3 l := ⟨_, rfl⟩
            have HXE := Lib.hid hX
            have hXl : X.length = j * 3 := by rw [hX, cell3_len, hl0]
            have HXL := Lib.hid hXl
            rw [← hX] at hown
            have hsz := HX4.out.bel.size
            clear hl2 hl0 hX hXl hM
            go_upto_region 16 with (at_builtin; refine wpList_append_lies _ rfl _ _ 30 rfl w.heap.size 32 i0 (.agg #[.int .i64 0, .slice none 0 0, .slice none 0 0]) 3 56 Try.underlying30 hi hz0 hz1 hz2 rfl (by decide) _ j X rfl (by exact (hown.alloc _)) ⟨wr.heap.size, 0, none⟩ 1 1 [.int .i64 0, .slice none 0 0, .slice none 0 0] rfl rfl (cell_three_new _ _ _ _ _) (by intro u hu; simp at hu; rcases hu with rfl | rfl | rfl <;> rfl) (by omega) (by unfold maxLen; omega) (by omega) (by simp; omega) _ rfl ?_; intro gq cq W6 hown6 hgrow6 hat6 hlq)
            have HB6 := Lib.hid (Below.grown (balloc HX4.out.bel (.cells #[.int .i64 0, .slice none 0 0, .slice none 0 0] 32)) hgrow6 (by simp; omega) (fun j hj => (hown.lt j hj).1))
            have hne : gq ≠ g5 := by
              have h5 := (Array.getElem?_eq_some_iff.1 HX4.out.box).1
              rcases hat6 with h1 | h1
              · have := HOWN.out _ h1; omega
              · rw [h1, alloc_sz]; omega
            have HX6 := Lib.hid (show BoxD P w g5 t' (.slice A1 n1 c1) (.slice A2 n2 c2) T W6 from ⟨(hgrow6.block g5 (by rw [alloc_sz]; have := (Array.getElem?_eq_some_iff.1 HX4.out.box).1; omega) (fun e => by have := HOWN.out _ e.symm; omega)).trans (alloc_on HX4.out.box), TAt.via HX4.out.tat HX4.out.bel HB6.out, HX4.out.low, HB6.out⟩)
            obtain ⟨cur, hcg, hgB, hnc, hcm, hcl, hct⟩ := own_blockM hown6
            have HSRC := Lib.hid (show ∀ q v, (X.drop (kk * 3))[q]? = some v → W6.cell? ((⟨gq, kk * 3, none⟩ : Addr).add q) = some v from fun q v hv => src_cellsM hown6 (kk * 3) q v (by
              rw [List.getElem?_drop] at hv ⊢
              rw [List.getElem?_append_left (List.getElem?_eq_some_iff.1 hv).1]
              exact hv))
            have H1C := Lib.hid (show ∀ u ∈ X.drop (kk * 3), u.oneCell' = true from fun u hu => cell3_one (by rw [HL0.out, HNO.out]) HL2.out u (by rw [← HXE.out]; exact List.mem_of_mem_drop hu))
            have HCG := Lib.hid hcg
            have HCT := Lib.hid hct
            have hcl64 : cq ≤ 9223372036854775807 := by unfold maxLen at hcm; omega
            have HCM := Lib.hid hcm
            have HCLL := Lib.hid hcl
            have HSZ := Lib.hid (show (Try.prog.info? 32).map (·.size) = some 3 by rw [hi]; simp [hz1])
            have HCL := Lib.hid (show (X.drop (kk * 3)).length = (j - kk) * 3 by rw [List.length_drop, HXL.out]; omega)
            clear hcg hct hcm hcl hown6 hgrow6 hat6 hown
            obtain ⟨k1, hk1⟩ : ∃ k1, k1 = kk + 1 := ⟨_, rfl⟩
            have HK1 := Lib.hid hk1
            have hwk : IntKind.i64.wrap ((kk : Int) + 1) = (k1 : Int) := (IntWalk.i64_in _ (by omega)).trans (by omega)
            have hk1q : (k1 : Int) ≤ (j : Int) + 1 := by omega
            have hkq : (kk : Int) ≤ (j : Int) + 1 := by omega
            have hck : ¬ cq = kk := by omega
            have HKQ := Lib.hid (show k1 + (j - kk) = j + 1 ∧ j + 1 - k1 = j - kk ∧ j - kk ≤ j + 1 - kk by omega)
            have HK0 := Lib.hid (show cq = k1 → j - kk = 0 from fun h => by omega)
            clear hk1
            by_cases hkc : cq = k1
            · subst hkc
              have hkc2 : ¬ cq = kk := hck
              go_region_law (refine step_copy_spliceM rfl (.tmp 45) (.tmp 48) 30 30 rfl 32 3 (by decide) Try.underlying30 HSZ.out (some ⟨gq, 0, none⟩) (some ⟨gq, kk * 3, none⟩) 0 0 (j + 1 - kk) (cq - kk) (by simp [Act.eval, Act.put, hkc2]) (by simp [Act.eval, Act.put, hkc2]) gq (cq * 3) cur 32 (by exact HCG.out) (X.drop (kk * 3)) (j - kk) ((show ∀ a b c : Nat, c = min a b → c = Nat.min a b from fun _ _ _ h => h) _ _ _ (by have h1 := HKQ.out; have h2 := HK0.out rfl; omega)) HCL.out (fun h0 => absurd h0 (by rw [HCL.out, HK0.out rfl]; omega)) (by rw [HCL.out, HCLL.out, HK0.out rfl]; omega) H1C.out w.heap.size w (by exact bstep HB6.out (bdrew' _)) hgB ?_; intro W7 hW7 hb7 hfar7)
              all_goals
                have own4 := own_splice3 (W := W7) (B := w.heap.size) (z0 := .int .i64 0) (z1 := .slice none 0 0) (z2 := .slice none 0 0) HXL.out hkj hgB hnc HCM.out HCLL.out HCT.out (by have h := hW7.out; rw [HK1.out] at h; exact h)
                have hyl : ((X ++ [Value.int .i64 0, .slice none 0 0, .slice none 0 0]).take (kk * 3 + 3) ++ X.drop (kk * 3)).length = (j + 1) * 3 := own4.1
                have hx7 : W7.heap[g5]? = some (.cells #[.int .i64 t', .slice A1 n1 c1, .slice A2 n2 c2] 32 (0, 0)) := (hfar7 g5 (by omega)).trans HX6.out.box
                have b0 : W7.cell? ⟨g5, 0, none⟩ = some (.int .i64 t') := cell_of_row _ _ 0 _ _ (0, 0) hx7
                have b1 : W7.cell? ⟨g5, 1, none⟩ = some (.slice A1 n1 c1) := cell_of_row _ _ 1 _ _ (0, 0) hx7
                have b2 : W7.cell? ⟨g5, 2, none⟩ = some (.slice A2 n2 c2) := cell_of_row _ _ 2 _ _ (0, 0) hx7
                have st0 := own4.stored (kk * 3) (.int .i64 t')
                have st1 := st0.1.stored (kk * 3 + 1) (.slice A1 n1 c1)
                have st2 := st1.1.stored (kk * 3 + 2) (.slice A2 n2 c2)
                have HO5 := Lib.hid st2.1
                have HB8 := Lib.hid (Below.grown (Below.grown (Below.grown hb7 st0.2 hb7.size (fun q hq => by cases hq; exact hgB)) st1.2 (by simp; exact hb7.size) (fun q hq => by cases hq; exact hgB)) st2.2 (by simp; exact hb7.size) (fun q hq => by cases hq; exact hgB))
                have z0 := own4.cellAt (kk * 3) (by omega)
                have z1 := own4.cellAt (kk * 3 + 1) (by omega)
                have z2 := own4.cellAt (kk * 3 + 2) (by omega)
                obtain ⟨u0, hu0⟩ : ∃ u, ((X ++ [Value.int .i64 0, .slice none 0 0, .slice none 0 0]).take (kk * 3 + 3) ++ X.drop (kk * 3))[kk * 3]? = some u := ⟨_, List.getElem?_eq_getElem (by rw [hyl]; omega)⟩
                obtain ⟨u1, hu1⟩ : ∃ u, ((X ++ [Value.int .i64 0, .slice none 0 0, .slice none 0 0]).take (kk * 3 + 3) ++ X.drop (kk * 3))[kk * 3 + 1]? = some u := ⟨_, List.getElem?_eq_getElem (by rw [hyl]; omega)⟩
                obtain ⟨u2, hu2⟩ : ∃ u, ((X ++ [Value.int .i64 0, .slice none 0 0, .slice none 0 0]).take (kk * 3 + 3) ++ X.drop (kk * 3))[kk * 3 + 2]? = some u := ⟨_, List.getElem?_eq_getElem (by rw [hyl]; omega)⟩
                rw [hu0] at z0
                rw [hu1] at z1
                rw [hu2] at z2
                clear hu0 hu1 hu2
                have hf0 := own4.frozenAt (kk * 3)
                have hf1 := own4.frozenAt (kk * 3 + 1)
                have hf2 := own4.frozenAt (kk * 3 + 2)
                have hkl : (kk : Int) < (j : Int) + 1 := by omega
                have HFIN := Lib.hid (TRow.ins (W := wr) (W' := ((W7.setCell ⟨gq, kk * 3, none⟩ (.int .i64 t')).setCell ⟨gq, kk * 3 + 1, none⟩ (.slice A1 n1 c1)).setCell ⟨gq, kk * 3 + 2, none⟩ (.slice A2 n2 c2)) (v := .slice (some ⟨gq, 0, none⟩) (j + 1) cq) (k := kk) (by rw [HL0.out, HNO.out]) HL2.out (by rw [HNO.out]; exact hkj) HX4.out.bel HB8.out HX4.out.tat (by
                  rw [HNO.out, ← HXE.out]
                  have h := HO5.out
                  rw [ins3 X _ _ _ _ _ _ (kk * 3) (by rw [HXL.out]; omega)] at h
                  exact h))
                clear own4 st0 st1 st2 hyl hb7 hW7 HSRC HCG hfar7 hx7
                go_wp2_with fail
                go_roundw
                case rel => exact ⟨i + 1, _, _, hlt, rfl, by go_num, HFIN, HIN, HB8⟩
                case measure => simp [intOf]; omega
            · go_region_law (refine step_copy_spliceM rfl (.tmp 45) (.tmp 48) 30 30 rfl 32 3 (by decide) Try.underlying30 HSZ.out (some ⟨gq, k1 * 3, none⟩) (some ⟨gq, kk * 3, none⟩) (j + 1 - k1) (cq - k1) (j + 1 - kk) (cq - kk) (by simp [Act.eval, Act.put]) (by simp [Act.eval, Act.put]) gq (k1 * 3) cur 32 (by exact HCG.out) (X.drop (kk * 3)) (j - kk) ((show ∀ a b c : Nat, c = min a b → c = Nat.min a b from fun _ _ _ h => h) _ _ _ (by have := HKQ.out; omega)) HCL.out (fun h0 => ⟨rfl, _, rfl, HSRC.out⟩) (by rw [HCL.out, HCLL.out]; have := HKQ.out; omega) H1C.out w.heap.size w (by exact bstep HB6.out (bdrew' _)) hgB ?_; intro W7 hW7 hb7 hfar7)
              all_goals
                have own4 := own_splice3 (W := W7) (B := w.heap.size) (z0 := .int .i64 0) (z1 := .slice none 0 0) (z2 := .slice none 0 0) HXL.out hkj hgB hnc HCM.out HCLL.out HCT.out (by have h := hW7.out; rw [HK1.out] at h; exact h)
                have hyl : ((X ++ [Value.int .i64 0, .slice none 0 0, .slice none 0 0]).take (kk * 3 + 3) ++ X.drop (kk * 3)).length = (j + 1) * 3 := own4.1
                have hx7 : W7.heap[g5]? = some (.cells #[.int .i64 t', .slice A1 n1 c1, .slice A2 n2 c2] 32 (0, 0)) := (hfar7 g5 (by omega)).trans HX6.out.box
                have b0 : W7.cell? ⟨g5, 0, none⟩ = some (.int .i64 t') := cell_of_row _ _ 0 _ _ (0, 0) hx7
                have b1 : W7.cell? ⟨g5, 1, none⟩ = some (.slice A1 n1 c1) := cell_of_row _ _ 1 _ _ (0, 0) hx7
                have b2 : W7.cell? ⟨g5, 2, none⟩ = some (.slice A2 n2 c2) := cell_of_row _ _ 2 _ _ (0, 0) hx7
                have st0 := own4.stored (kk * 3) (.int .i64 t')
                have st1 := st0.1.stored (kk * 3 + 1) (.slice A1 n1 c1)
                have st2 := st1.1.stored (kk * 3 + 2) (.slice A2 n2 c2)
                have HO5 := Lib.hid st2.1
                have HB8 := Lib.hid (Below.grown (Below.grown (Below.grown hb7 st0.2 hb7.size (fun q hq => by cases hq; exact hgB)) st1.2 (by simp; exact hb7.size) (fun q hq => by cases hq; exact hgB)) st2.2 (by simp; exact hb7.size) (fun q hq => by cases hq; exact hgB))
                have z0 := own4.cellAt (kk * 3) (by omega)
                have z1 := own4.cellAt (kk * 3 + 1) (by omega)
                have z2 := own4.cellAt (kk * 3 + 2) (by omega)
                obtain ⟨u0, hu0⟩ : ∃ u, ((X ++ [Value.int .i64 0, .slice none 0 0, .slice none 0 0]).take (kk * 3 + 3) ++ X.drop (kk * 3))[kk * 3]? = some u := ⟨_, List.getElem?_eq_getElem (by rw [hyl]; omega)⟩
                obtain ⟨u1, hu1⟩ : ∃ u, ((X ++ [Value.int .i64 0, .slice none 0 0, .slice none 0 0]).take (kk * 3 + 3) ++ X.drop (kk * 3))[kk * 3 + 1]? = some u := ⟨_, List.getElem?_eq_getElem (by rw [hyl]; omega)⟩
                obtain ⟨u2, hu2⟩ : ∃ u, ((X ++ [Value.int .i64 0, .slice none 0 0, .slice none 0 0]).take (kk * 3 + 3) ++ X.drop (kk * 3))[kk * 3 + 2]? = some u := ⟨_, List.getElem?_eq_getElem (by rw [hyl]; omega)⟩
                rw [hu0] at z0
                rw [hu1] at z1
                rw [hu2] at z2
                clear hu0 hu1 hu2
                have hf0 := own4.frozenAt (kk * 3)
                have hf1 := own4.frozenAt (kk * 3 + 1)
                have hf2 := own4.frozenAt (kk * 3 + 2)
                have hkl : (kk : Int) < (j : Int) + 1 := by omega
                have HFIN := Lib.hid (TRow.ins (W := wr) (W' := ((W7.setCell ⟨gq, kk * 3, none⟩ (.int .i64 t')).setCell ⟨gq, kk * 3 + 1, none⟩ (.slice A1 n1 c1)).setCell ⟨gq, kk * 3 + 2, none⟩ (.slice A2 n2 c2)) (v := .slice (some ⟨gq, 0, none⟩) (j + 1) cq) (k := kk) (by rw [HL0.out, HNO.out]) HL2.out (by rw [HNO.out]; exact hkj) HX4.out.bel HB8.out HX4.out.tat (by
                  rw [HNO.out, ← HXE.out]
                  have h := HO5.out
                  rw [ins3 X _ _ _ _ _ _ (kk * 3) (by rw [HXL.out]; omega)] at h
                  exact h))
                clear own4 st0 st1 st2 hyl hb7 hW7 HSRC HCG hfar7 hx7
                go_wp2_with fail
                go_roundw
                case rel => exact ⟨i + 1, _, _, hlt, rfl, by go_num, HFIN, HIN, HB8⟩
                case measure => simp [intOf]; omega
    · obtain rfl : i = n := by omega
      have HF := Lib.hid (And.intro (hR.out.listP (R := fun b => P b ∨ w.heap.size ≤ b) (fun b h => .inl h.1) (fun b h => .inr h)) (And.intro hD.out hB.out))
      go_wp2_with fail
      go_ret
      exact ⟨_, ds, rfl, HF.out.1, HF.out.2.1, HF.out.2.2⟩

end Go.Proofs.Ytnfdacfhhkahhaa

namespace Go.Proofs.Ytnfdacfhhkahhaa
set_option linter.unusedVariables false
set_option linter.unusedSimpArgs false
open Go.RowKit

theorem holds_up {n : Int} {p : Int → Bool} : ∀ (d : Nat) (T : Tree), WF n d T → holdsT (d + 1) p T = holdsT d p T
  | 0, T, h => h.elim
  | d + 1, .mk thr ns is, h => by
    obtain ⟨_, _, _, _, _, _, hi⟩ := h
    have e : is.filter (holdsT (d + 1) p) = is.filter (holdsT d p) := List.filter_congr (fun T hT => holds_up d T (hi T hT))
    show decide (thr ≤ ((cnt p ns + cnt (holdsT (d + 1) p) is : Nat) : Int)) = decide (thr ≤ ((cnt p ns + cnt (holdsT d p) is : Nat) : Int))
    unfold cnt
    rw [e]

theorem holds_any {p : Int → Bool} {d : Nat} (ds : List Tree) : holdsT (d + 1) p (.mk 1 [] ds) = ds.any (holdsT d p) := by
  show decide ((1 : Int) ≤ ((cnt p [] + cnt (holdsT d p) ds : Nat) : Int)) = _
  rw [Bool.eq_iff_iff, decide_eq_true_iff, List.any_eq_true]
  unfold cnt
  constructor
  · intro h
    have h2 : 0 < (ds.filter (holdsT d p)).length := by simp at h; omega
    obtain ⟨x, hx⟩ := List.exists_mem_of_length_pos h2
    exact ⟨x, (List.mem_filter.1 hx).1, (List.mem_filter.1 hx).2⟩
  · rintro ⟨x, h1, h2⟩
    have h3 := List.length_pos_of_mem (List.mem_filter.2 ⟨h1, h2⟩)
    simp; omega

theorem holds_all {p : Int → Bool} {d : Nat} (ds : List Tree) : holdsT (d + 1) p (.mk (ds.length : Int) [] ds) = ds.all (holdsT d p) := by
  show decide ((ds.length : Int) ≤ ((cnt p [] + cnt (holdsT d p) ds : Nat) : Int)) = _
  rw [Bool.eq_iff_iff, decide_eq_true_iff, List.all_eq_true]
  unfold cnt
  constructor
  · intro h x hx
    have h2 : (ds.filter (holdsT d p)).length = ds.length := by
      have := List.length_filter_le (holdsT d p) ds
      simp at h; omega
    exact List.length_filter_eq_length_iff.1 h2 x hx
  · intro h
    have h2 := List.length_filter_eq_length_iff.2 h
    simp; omega

/-- What a list of trusts is joined to. -/
def JoinT (all : Bool) (n : Int) (ts : List Tree) (m : Mem) : Prop :=
  (ts = [] → m = (false, .mk 0 [] [])) ∧ (ts ≠ [] → m.1 = true ∧ WF n 3 m.2 ∧ ∃ ds : List Tree, ds ≠ [] ∧ (∀ d, d ∈ ds ↔ d ∈ ts) ∧ ∀ p, holdsT 3 p m.2 = if all then ds.all (holdsT 2 p) else ds.any (holdsT 2 p))

theorem diff_mem {ts ds : List Tree} (h : DiffOf ts ts.length ds) (d : Tree) : d ∈ ds ↔ d ∈ ts := by
  have h1 := h.sub
  have h2 := h.all
  rw [List.take_length] at h1 h2
  exact ⟨h1 d, h2 d⟩

theorem join_nil {all : Bool} {n : Int} {ts ds : List Tree} (h : DiffOf ts ts.length ds) (h0 : ds.length = 0) : JoinT all n ts (false, .mk 0 [] []) := by
  have hts : ts = [] := by
    cases ts with
    | nil => rfl
    | cons t ts =>
      have := (diff_mem h t).2 (by simp)
      rw [List.eq_nil_of_length_eq_zero h0] at this
      cases this
  exact ⟨fun _ => rfl, fun h => absurd hts h⟩

theorem diff_ne {ts ds : List Tree} (h : DiffOf ts ts.length ds) (h0 : 0 < ds.length) : ts ≠ [] := by
  rintro rfl
  have h1 : ds.length ≤ 0 := h.len
  omega

theorem join_one {all : Bool} {n : Int} {ts ds : List Tree} {d : Tree} (h : DiffOf ts ts.length ds) (hw : ∀ t ∈ ts, WF n 2 t) (h1 : ds.length = 1) (hd : ds[0]? = some d) : JoinT all n ts (true, d) := by
  have e : ds = [d] := by
    match ds, h1, hd with
    | [x], _, hd => simp at hd; rw [hd]
  have hm : d ∈ ts := (diff_mem h d).1 (by rw [e]; simp)
  refine ⟨fun h0 => absurd h0 (diff_ne h (by omega)), fun _ => ⟨rfl, D3.WF.up (hw d hm), ds, by rw [e]; simp, diff_mem h, fun p => ?_⟩⟩
  rw [holds_up 2 d (hw d hm), e]
  cases all <;> simp

theorem join_more {all : Bool} {n : Int} {ts ds : List Tree} {thr : Int} (h : DiffOf ts ts.length ds) (hw : ∀ t ∈ ts, WF n 2 t) (h3 : ts.length ≤ 3) (h1 : 0 < ds.length) (ht : thr = if all then (ds.length : Int) else 1) : JoinT all n ts (true, .mk thr [] ds) := by
  have hl := h.len
  refine ⟨fun h0 => absurd h0 (diff_ne h h1), fun _ => ⟨rfl, ⟨?_, ?_, by simp, by omega, by simp, by simp, fun T hT => hw T ((diff_mem h T).1 hT)⟩, ds, fun h0 => by rw [h0] at h1; simp at h1, diff_mem h, fun p => ?_⟩⟩
  · rw [ht]
    cases all
    · show (1 : Int) ≤ 1; omega
    · show (1 : Int) ≤ (ds.length : Int); omega
  · rw [ht]
    cases all
    · show (1 : Int) ≤ ((0 + ds.length : Nat) : Int); omega
    · show (ds.length : Int) ≤ ((0 + ds.length : Nat) : Int); omega
  · rw [ht]
    cases all
    · exact holds_any ds
    · exact holds_all ds

/-- Lists of trusts. -/
def LLAt (P : Nat → Prop) (W : World) (v : Value) (tss : List (List Tree)) : Prop :=
  ∃ A c, v = .slice A tss.length c ∧ ∀ k ts, tss[k]? = some ts → ∃ b off u, A = some ⟨b, off, none⟩ ∧ P b ∧ W.cell? ⟨b, off + k, none⟩ = some u ∧ ListT P 2 W u ts

theorem LLAt.keep {P : Nat → Prop} {W W' : World} {v : Value} {tss : List (List Tree)} (h : LLAt P W v tss) (hk : ∀ k, k < W.heap.size → P k → W'.heap[k]? = W.heap[k]?) : LLAt P W' v tss := by
  obtain ⟨A, c, h1, h2⟩ := h
  refine ⟨A, c, h1, fun k ts ht => ?_⟩
  obtain ⟨b, off, u, e1, e2, e3, e4⟩ := h2 k ts ht
  exact ⟨b, off, u, e1, e2, (World.cell?_of_block (a := ⟨b, off + k, none⟩) (hk b (cell_lt e3) e2)).trans e3, e4.both hk (fun _ _ h => h)⟩

/-- The first k members are joined. -/
def JoinL (all : Bool) (n : Int) (tss : List (List Tree)) (k : Nat) (ms : List Mem) : Prop := ms.length = k ∧ ∀ (i : Nat) (ts : List Tree) (m : Mem), tss[i]? = some ts → ms[i]? = some m → JoinT all n ts m

theorem JoinL.zero (all : Bool) (n : Int) (tss : List (List Tree)) : JoinL all n tss 0 [] := ⟨rfl, fun i ts m _ h => by cases h⟩

theorem JoinL.succ {all : Bool} {n : Int} {tss : List (List Tree)} {k : Nat} {ms : List Mem} {ts : List Tree} {m : Mem} (h : JoinL all n tss k ms) (ht : tss[k]? = some ts) (hm : JoinT all n ts m) : JoinL all n tss (k + 1) (ms ++ [m]) := by
  refine ⟨by rw [List.length_append, h.1]; rfl, fun i us x hu hx => ?_⟩
  rcases Nat.lt_or_ge i ms.length with h1 | h1
  · rw [List.getElem?_append_left h1] at hx
    exact h.2 i us x hu hx
  · have h2 := (List.getElem?_eq_some_iff.1 hx).1
    rw [List.length_append] at h2
    obtain rfl : i = k := by have := h.1; simp at h2; omega
    rw [ht] at hu
    obtain rfl := Option.some.inj hu
    rw [List.getElem?_append_right h1, h.1, Nat.sub_self] at hx
    have hx' : m = x := by simpa using hx
    rw [← hx']; exact hm

theorem JoinL.ok {all : Bool} {n : Nat} {tss : List (List Tree)} {ms : List Mem} (h : JoinL all (n : Int) tss n ms) (hn : tss.length = n) : D3.MemsOk ms.length ms := by
  intro x hx
  obtain ⟨k, hk, rfl⟩ := List.getElem_of_mem hx
  have hk2 : k < tss.length := by have := h.1; omega
  have hj := h.2 k _ _ (List.getElem?_eq_getElem hk2) (List.getElem?_eq_getElem hk)
  rw [h.1]
  by_cases h0 : tss[k] = []
  · have := hj.1 h0
    rw [this]
    exact ⟨fun h => (by cases h), fun _ => rfl⟩
  · have := hj.2 h0
    exact ⟨fun _ => this.2.1, fun h => by rw [this.1] at h; cases h⟩

end Go.Proofs.Ytnfdacfhhkahhaa

namespace Go.Proofs.Ytnfdacfhhkahhaa
set_option linter.unusedVariables false
set_option linter.unusedSimpArgs false
open Go.RowKit

theorem set4_far {W : World} {r q : Nat} (u0 u1 u2 u3 : Value) (h : q ≠ r) : ((((W.setCell ⟨r, 0, none⟩ u0).setCell ⟨r, 1, none⟩ u1).setCell ⟨r, 2, none⟩ u2).setCell ⟨r, 3, none⟩ u3).heap[q]? = W.heap[q]? :=
  (Below.heap_setCell _ _ _ q h).trans ((Below.heap_setCell _ _ _ q h).trans ((Below.heap_setCell _ _ _ q h).trans (Below.heap_setCell _ _ _ q h)))

theorem set4_row {W : World} {r : Nat} {a0 a1 a2 a3 : Value} {t : TypeId} (u0 u1 u2 u3 : Value) (h : W.heap[r]? = some (.cells #[a0, a1, a2, a3] t (0, 0))) : ((((W.setCell ⟨r, 0, none⟩ u0).setCell ⟨r, 1, none⟩ u1).setCell ⟨r, 2, none⟩ u2).setCell ⟨r, 3, none⟩ u3).heap[r]? = some (.cells #[u0, u1, u2, u3] t (0, 0)) := by
  simp [World.setCell, Array.getElem?_modify, h]

theorem set1_row {W : World} {r : Nat} {a0 a1 a2 a3 : Value} {t : TypeId} (u : Value) (h : W.heap[r]? = some (.cells #[a0, a1, a2, a3] t (0, 0))) : (W.setCell ⟨r, 1, none⟩ u).heap[r]? = some (.cells #[a0, u, a2, a3] t (0, 0)) := by
  simp [World.setCell, Array.getElem?_modify, h]

theorem set4_grown {A W : World} {r : Nat} (u0 u1 u2 u3 : Value) (sb : Nat) (h : A.grownBy W (some sb)) (hr : A.heap.size ≤ r) : A.grownBy ((((W.setCell ⟨r, 0, none⟩ u0).setCell ⟨r, 1, none⟩ u1).setCell ⟨r, 2, none⟩ u2).setCell ⟨r, 3, none⟩ u3) (some sb) :=
  gset (gset (gset (gset h (p := ⟨r, 0, none⟩) hr u0) (p := ⟨r, 1, none⟩) hr u1) (p := ⟨r, 2, none⟩) hr u2) (p := ⟨r, 3, none⟩) hr u3

theorem joinQ {P : Nat → Prop} {g r x : Nat} {v : Value} {b : Nat} (hv : ∀ q, v.ownBlock = some q → g + 2 ≤ q ∧ q < x) (hx : g + 2 ≤ x) (h : ((P b ∧ b < g) ∨ x ≤ b) ∧ b < r) : (((P b ∧ b < g) ∨ g + 2 ≤ b) ∧ v.ownBlock ≠ some b) ∧ b ≠ r := by
  refine ⟨⟨?_, fun e => ?_⟩, by have := h.2; omega⟩
  · rcases h.1 with h1 | h1
    · exact .inl h1
    · exact .inr (by omega)
  · have := hv b e
    rcases h.1 with h1 | h1 <;> omega

set_option maxRecDepth 100000 in
set_option maxHeartbeats 16000000 in
theorem joined_run (P : Nat → Prop) (tss : List (List Tree)) (all : Bool) (n : Nat) (v0 : Value) (w : World) (hn : tss.length = n) (hn10 : n ≤ 10) (h3 : ∀ ts ∈ tss, ts.length ≤ 3) (hwf : ∀ ts ∈ tss, ∀ T ∈ ts, WF n 2 T) (h : LLAt P w v0 tss) :
    Calls Try.prog 64 #[v0, .bool all] w fun e w' => ∃ v' ms, e = .returned (.tuple #[.agg #[v'], .int .i64 0]) ∧ MemsAt (fun b => P b ∨ w.heap.size ≤ b) 3 w' v' ms ∧ JoinL all n tss n ms ∧ Below w.heap.size w w' := by
  obtain ⟨A, c, rfl, hL⟩ := h
  obtain ⟨i4, hi4, hy0, hy1, hy2⟩ := info_parts infoMember
  have hb2 : Below w.heap.size w ((w.alloc (.cells #[.slice none 0 0] 27)).alloc (.cells #[.slice none 0 0] 27)) := balloc (balloc (bref w) _) _
  have k0 : ((w.alloc (.cells #[.slice none 0 0] 27)).alloc (.cells #[.slice none 0 0] 27)).heap[w.heap.size]? = some (.cells #[.slice none 0 0] 27 (0, 0)) := alloc_on (alloc_at rfl)
  have k1 : ((w.alloc (.cells #[.slice none 0 0] 27)).alloc (.cells #[.slice none 0 0] 27)).heap[w.heap.size + 1]? = some (.cells #[.slice none 0 0] 27 (0, 0)) := alloc_at (alloc_sz _ _)
  have hsz : ((w.alloc (.cells #[.slice none 0 0] 27)).alloc (.cells #[.slice none 0 0] 27)).heap.size = w.heap.size + 2 := by rw [alloc_sz, alloc_sz]
  have H := Lib.hid (fun k ts (ht : tss[k]? = some ts) => (by
    obtain ⟨b, off, u, e1, _, e3, e4⟩ := hL k ts ht
    exact ⟨b, off, u, e1, cell_lt e3, (hb2.cell (cell_lt e3)).trans e3, (e4.both (Q := fun b => P b ∧ b < w.heap.size) (fun _ _ _ => rfl) (fun k hk hp => ⟨hp, hk⟩)).below hb2⟩ : ∃ b off u, A = some ⟨b, off, none⟩ ∧ b < w.heap.size ∧ ((w.alloc (.cells #[.slice none 0 0] 27)).alloc (.cells #[.slice none 0 0] 27)).cell? ⟨b, off + k, none⟩ = some u ∧ ListT (fun b => P b ∧ b < w.heap.size) 2 ((w.alloc (.cells #[.slice none 0 0] 27)).alloc (.cells #[.slice none 0 0] 27)) u ts))
  have HB := Lib.hid hb2
  have K0 := Lib.hid k0
  have K1 := Lib.hid k1
  have H3 := Lib.hid h3
  have HWF := Lib.hid hwf
  have HN := Lib.hid hn
  rw [hn]
  clear hL hb2 k0 k1 h3 hwf hn
  go_enter Try.func64, Try.ntmps64
  go_upto_region 4 with fail
  generalize ((w.alloc (.cells #[.slice none 0 0] 27)).alloc (.cells #[.slice none 0 0] 27)) = W1 at *
  generalize hg : w.heap.size = g at *
  have HG := Lib.hid hg
  clear hg
  go_wp2_with fail
  go_loopw [21] (fun t W => ∃ (k : Nat) (v : Value) (ms : List Mem), k ≤ n ∧ t = .int .i64 k ∧ Hid (GRow (fun b => (P b ∧ b < g) ∨ g + 2 ≤ b) (g + 2) 3 W v ms) ∧ Hid (W.heap[g + 1]? = some (.cells #[v] 27 (0, 0))) ∧ Hid (JoinL all n tss k ms) ∧ Hid (W1.grownBy W (some (g + 1)))) (fun t _ => n - (intOf t).toNat)
  case atStart => exact ⟨0, .slice none 0 0, [], by omega, rfl, Lib.hid (GRow.nil _ _ _ _), K1, Lib.hid (JoinL.zero _ _ _), Lib.hid (World.grownBy.refl _ _)⟩
  case round =>
    obtain ⟨k, v, ms, hk, rfl, hRow, hOut, HJ, hGr⟩ := hrel
    have hwr := hGr.out.size
    by_cases hlt : k < n
    · obtain ⟨ts, hts⟩ : ∃ ts, tss[k]? = some ts := ⟨_, List.getElem?_eq_getElem (by rw [HN.out]; exact hlt)⟩
      obtain ⟨b, off, u, rfl, hbg, e0, hLu⟩ := H.out k ts hts
      have d0 := (World.cell?_of_block (a := ⟨b, off + k, none⟩) (hGr.out.block b (cell_lt e0) (by simp; omega))).trans e0
      have HLU := Lib.hid (hLu.both (w' := wr) (Q := fun b => P b ∧ b < g) (fun q hq hP => hGr.out.block q hq (by have := hP.2; simp; omega)) (fun _ _ h => h))
      have HTS := Lib.hid hts
      have hm3 := H3.out ts (List.mem_of_getElem? hts)
      have HWU := Lib.hid (HWF.out ts (List.mem_of_getElem? hts))
      obtain ⟨Au, cu, rfl⟩ := hLu.slice
      obtain ⟨nt, hnt⟩ : ∃ nt, ts.length = nt := ⟨_, rfl⟩
      have HNT := Lib.hid hnt
      rw [hnt] at hm3 HLU d0
      have HRW0 := hRow
      have HOW0 := hOut
      have HGR0 := hGr
      have HROX := Lib.hid (fun q (hq : v.ownBlock = some q) => (hRow.out.own q hq))
      clear hLu e0 hts hnt hRow hOut hGr
      obtain ⟨wo, rfl⟩ : ∃ wo : World, wo = wr := ⟨_, rfl⟩
      go_wp2_with fail
      clear d0
      go_loopw [27] (fun t W => ∃ j : Nat, j ≤ nt ∧ t = .int .i64 j ∧ Hid (Below wo.heap.size wo W)) (fun t _ => nt - (intOf t).toNat)
      case atStart => exact ⟨0, Nat.zero_le _, rfl, Lib.hid (bref _)⟩
      case round =>
        obtain ⟨j, hj, rfl, hBe⟩ := hrel
        have HLj := Lib.hid (HLU.out.below hBe.out)
        by_cases hlt2 : j < nt
        · obtain ⟨T, hT⟩ : ∃ T, ts[j]? = some T := ⟨_, List.getElem?_eq_getElem (by rw [HNT.out]; exact hlt2)⟩
          obtain ⟨Bn, cn, hBn, hLc⟩ := HLj.out
          injection hBn with q1 q2 q3
          subst q1
          obtain ⟨b', off', x0, x1, x2, rfl, _, f0, f1, f2, hTk⟩ := hLc j T hT
          obtain ⟨t', A', n', ca, B', m', cb, rfl, rfl, rfl⟩ := hTk.form
          have HTV := Lib.hid (hTk.below (balloc (bref wr) (.cells #[.int .i64 t', .slice A' n' ca, .slice B' m' cb] 32)))
          have HWT := Lib.hid (HWU.out T (List.mem_of_getElem? hT))
          have HB2 := Lib.hid (balloc hBe.out (.cells #[.int .i64 t', .slice A' n' ca, .slice B' m' cb] 32))
          clear hTk hLc hT q2 q3
          go_wp2_with fail
          refine (rtvalid_run _ n (by omega) 2 (by omega) T _ _ _ _ HTV.out HWT.out (sizeT2_le HWT.out)).mono ?_
          rintro e w5 ⟨rfl, hb5⟩
          have HB5 := Lib.hid (bstep HB2.out hb5)
          clear hb5
          go_wp2_with fail
          go_roundw
          case rel => exact ⟨j + 1, hlt2, by go_num, HB5⟩
          case measure => simp [intOf]; omega
        · obtain rfl : j = nt := by omega
          obtain ⟨wa, rfl⟩ : ∃ wa : World, wa = wr := ⟨_, rfl⟩
          go_wp2_with fail
          refine (different_run (fun b => P b ∧ b < g) ts _ _ (by rw [HNT.out]; exact hm3) (by exact HLj.out)).mono ?_
          rintro e Wb ⟨v12, ds, rfl, hLd, hDf, hbb⟩
          have HDF := Lib.hid hDf
          have hdl := hDf.len
          rw [HNT.out] at hdl
          have HBB := Lib.hid (bstep hBe.out hbb)
          have hLd' := hLd.both (w' := Wb) (Q := fun b => ((P b ∧ b < g) ∨ wo.heap.size ≤ b) ∧ b < Wb.heap.size) (fun _ _ _ => rfl) (fun b hb h => ⟨h.imp id (fun h2 => Nat.le_trans hBe.out.size h2), hb⟩)
          obtain ⟨Ad, cd, rfl⟩ := hLd'.slice
          obtain ⟨nd, hnd⟩ : ∃ nd, ds.length = nd := ⟨_, rfl⟩
          have HND := Lib.hid hnd
          rw [hnd] at hdl hLd'
          have HLD := Lib.hid hLd'
          rw [hnd]
          clear hLd hDf hbb hLd' hnd
          have HZA := Lib.hid (balloc HBB.out (.cells #[.bool false, .int .i64 0, .slice none 0 0, .slice none 0 0] 34))
          have HZK := Lib.hid (show (Wb.alloc (.cells #[.bool false, .int .i64 0, .slice none 0 0, .slice none 0 0] 34)).heap[Wb.heap.size]? = some (.cells #[.bool false, .int .i64 0, .slice none 0 0, .slice none 0 0] 34 (0, 0)) from alloc_at rfl)
          have HZL := Lib.hid (HLD.out.below (balloc (bref Wb) (.cells #[.bool false, .int .i64 0, .slice none 0 0, .slice none 0 0] 34)))
          have HZS := Lib.hid (show g + 2 ≤ Wb.heap.size ∧ wo.heap.size ≤ Wb.heap.size by have := HBB.out.size; omega)
          go_upto_region 18 with fail
          generalize (Wb.alloc (.cells #[.bool false, .int .i64 0, .slice none 0 0, .slice none 0 0] 34)) = W3 at *
          generalize Wb.heap.size = r at *
          have HRQ := Lib.hid HZS.out.1
          have hro := HZS.out.2
          have hrl : r < W3.heap.size := (Array.getElem?_eq_some_iff.1 HZK.out).1
          have HGX := Lib.hid (grown_trans HGR0.out (grown_below HZA.out))
          have hw1r : W1.heap.size ≤ r := Nat.le_trans hwr hro
          have HNOB := Lib.hid (fun q (hq : v.ownBlock = some q) => (show g + 2 ≤ q ∧ q < wo.heap.size from HROX.out q hq))
          by_cases hd0 : nd = 0
          · subst hd0
            have HMJ := Lib.hid (join_nil (all := all) (n := (n : Int)) HDF.out HND.out)
            have K6 := HZK
            have HT6 := Lib.hid (TAt.empty (fun b => ((P b ∧ b < g) ∨ g + 2 ≤ b) ∧ v.ownBlock ≠ some b) 2 W3 none none 0 0)
            have HG6 := HGX
            have L6 := Lib.hid (fun q (hq : q < wo.heap.size) => HZA.out.block q hq)
            go_upto_region 24 with fail
            generalize W3 = W6 at *
            have x0 : W6.cell? ⟨r, 0, none⟩ = some (.bool false) := cell_of_row _ _ 0 _ _ (0, 0) K6.out
            have x1 : W6.cell? ⟨r, 1, none⟩ = some (.int .i64 0) := cell_of_row _ _ 1 _ _ (0, 0) K6.out
            have x2 : W6.cell? ⟨r, 2, none⟩ = some (.slice none 0 0) := cell_of_row _ _ 2 _ _ (0, 0) K6.out
            have x3 : W6.cell? ⟨r, 3, none⟩ = some (.slice none 0 0) := cell_of_row _ _ 3 _ _ (0, 0) K6.out
            have hcb6 : W6.heap[g + 1]? = some (.cells #[v] 27 (0, 0)) := (L6.out (g + 1) (by omega)).trans HOW0.out
            have q2 : W6.cell? ⟨g + 1, 0, none⟩ = some v := cell_of_row _ _ 0 _ _ (0, 0) hcb6
            have HCB6 := Lib.hid hcb6
            obtain ⟨cs, hcs, hcl⟩ := HRW0.out.keep (W' := W6) (fun q _ hq => L6.out q hq)
            have hcn := hcs.1
            have HCSA := Lib.hid (hcs.alloc (.cells #[.bool false, .int .i64 0, .slice none 0 0, .slice none 0 0] 34))
            have HNEW := Lib.hid (cell_four_new W6 (.bool false) (.int .i64 0) (.slice none 0 0) (.slice none 0 0) 34)
            have HBA4 := Lib.hid (balloc (bref W6) (.cells #[.bool false, .int .i64 0, .slice none 0 0, .slice none 0 0] 34))
            have HSZ4 := Lib.hid (alloc_sz W6 (.cells #[.bool false, .int .i64 0, .slice none 0 0, .slice none 0 0] 34))
            have HCL := Lib.hid hcl
            have hz6 : r < W6.heap.size := cell_lt x0
            have hgr : g + 2 ≤ r := HRQ.out
            have HMK := Lib.hid (HJ.out.succ HTS.out HMJ.out)
            have HML := Lib.hid HJ.out.1
            clear hcs hcl hcb6
            go_wp2_with (at_builtin; refine wpList_append_lies _ rfl _ _ 25 rfl (g + 2) 34 i4 (.agg #[.bool false, .int .i64 0, .slice none 0 0, .slice none 0 0]) 4 64 Try.underlying25 hi4 hy0 hy1 hy2 rfl (by decide) _ ms.length cs rfl (by exact HCSA.out) ⟨_, 0, none⟩ 1 1 [.bool false, .int .i64 0, .slice none 0 0, .slice none 0 0] rfl rfl (by exact HNEW.out) (by intro u hu; simp at hu; rcases hu with rfl | rfl | rfl | rfl <;> rfl) (by omega) (by have := HML.out; unfold maxLen; omega) (by have := HML.out; omega) (by have := HSZ4.out; omega) _ rfl ?_; intro g4 cap4 W7 hown4 hgrow4 hat4 hlt4; have hcb5 : W7.heap[g + 1]? = some (.cells #[v] 27 (0, 0)) := (hgrow4.block (g + 1) (by have := HSZ4.out; omega) (fun e => by have := (HROX.out _ e.symm).1; omega)).trans ((HBA4.out.block (g + 1) (by omega)).trans HCB6.out); have s0 : W7.cell? ⟨g + 1, 0, none⟩ = some v := cell_of_row _ _ 0 _ _ (0, 0) hcb5; have sf : W7.frozen? ⟨g + 1, 0, none⟩ = false := by simp [World.frozen?, hcb5])
            have hgB : (W6.alloc (.cells #[.bool false, .int .i64 0, .slice none 0 0, .slice none 0 0] 34)).grownBy W7 v.ownBlock := ⟨hgrow4.os, hgrow4.tape, hgrow4.output, hgrow4.size, hgrow4.block⟩
            have hrow5 := GRow.append (Q := fun b => (P b ∧ b < g) ∨ g + 2 ≤ b) (m := (false, .mk 0 [] [])) (WA := W6.alloc (.cells #[.bool false, .int .i64 0, .slice none 0 0, .slice none 0 0] 34)) (fun k m hm => by
                obtain ⟨z0, z1, z2, e0, e1, e2, e3, e4⟩ := HCL.out k m hm
                exact ⟨z0, z1, z2, e0, e1, e2, e3, e4.below HBA4.out⟩) hcn (HT6.out.below HBA4.out) hown4 hgB hat4
            have HROW5 := Lib.hid (hrow5.keep (W' := W7.setCell ⟨g + 1, 0, none⟩ (.slice (some ⟨g4, 0, none⟩) (ms.length + 1) cap4)) (fun q hq _ => Below.heap_setCell _ _ _ _ (by show q ≠ g + 1; rcases hq with (hq | hq) | hq <;> omega)))
            have hset5 : (W7.setCell ⟨g + 1, 0, none⟩ (.slice (some ⟨g4, 0, none⟩) (ms.length + 1) cap4)).heap[g + 1]? = some (.cells #[.slice (some ⟨g4, 0, none⟩) (ms.length + 1) cap4] 27 (0, 0)) := by
              simp [World.setCell, Array.getElem?_modify, hcb5]
            have HSET5 := Lib.hid hset5
            have HGR5 := Lib.hid (grown_at (gown (grown_trans HG6.out (grown_below HBA4.out)) hgB (fun q hq => by have := (HROX.out q hq).1; omega)) 0 (.slice (some ⟨g4, 0, none⟩) (ms.length + 1) cap4))
            clear hown4 hgrow4 hat4 hlt4 hcb5 s0 sf hgB hrow5 hset5
            go_roundw
            case rel => exact ⟨k + 1, _, _, by omega, by go_num, HROW5, HSET5, HMK, HGR5⟩
            case measure => simp [intOf]; omega
          · by_cases hd1 : nd = 1
            · subst hd1
              obtain ⟨d, hd⟩ : ∃ d, ds[0]? = some d := ⟨_, List.getElem?_eq_getElem (by rw [HND.out]; omega)⟩
              have HMJ := Lib.hid (join_one (all := all) (n := (n : Int)) HDF.out HWU.out HND.out hd)
              obtain ⟨Bn, cn, hBn, hLc⟩ := HZL.out
              injection hBn with q1 q2 q3
              subst q1
              obtain ⟨b', off', x0, x1, x2, rfl, hP', f0, f1, f2, hTk⟩ := hLc 0 d hd
              obtain ⟨t', A', n', ca, B', m', cb, rfl, rfl, rfl⟩ := hTk.form
              rw [Nat.zero_mul, Nat.add_zero] at f0 f1 f2
              have z0 : W3.cell? ⟨r, 0, none⟩ = some (.bool false) := cell_of_row _ _ 0 _ _ (0, 0) HZK.out
              have z1 : W3.cell? ⟨r, 1, none⟩ = some (.int .i64 0) := cell_of_row _ _ 1 _ _ (0, 0) HZK.out
              have z2 : W3.cell? ⟨r, 2, none⟩ = some (.slice none 0 0) := cell_of_row _ _ 2 _ _ (0, 0) HZK.out
              have z3 : W3.cell? ⟨r, 3, none⟩ = some (.slice none 0 0) := cell_of_row _ _ 3 _ _ (0, 0) HZK.out
              have zf : ∀ j, W3.frozen? ⟨r, j, none⟩ = false := fun j => by simp [World.frozen?, HZK.out]
              have zf0 := zf 0
              have zf1 := zf 1
              have zf2 := zf 2
              have zf3 := zf 3
              have hTP := hTk.imp (Q := fun b => (((P b ∧ b < g) ∨ g + 2 ≤ b) ∧ v.ownBlock ≠ some b) ∧ b ≠ r) (fun b hb hP => joinQ HNOB.out (by omega) hP)
              have K6 := Lib.hid (set4_row (.bool true) (.int .i64 t') (.slice A' n' ca) (.slice B' m' cb) HZK.out)
              have L6 := Lib.hid (fun q (hq : q < wo.heap.size) => (set4_far (W := W3) (.bool true) (.int .i64 t') (.slice A' n' ca) (.slice B' m' cb) (by omega : q ≠ r)).trans (HZA.out.block q hq))
              have HT6 := Lib.hid ((TAt.both (w' := ((((W3.setCell ⟨r, 0, none⟩ (.bool true)).setCell ⟨r, 1, none⟩ (.int .i64 t')).setCell ⟨r, 2, none⟩ (.slice A' n' ca)).setCell ⟨r, 3, none⟩ (.slice B' m' cb))) (Q := fun b => ((P b ∧ b < g) ∨ g + 2 ≤ b) ∧ v.ownBlock ≠ some b) (fun q hq hP => set4_far _ _ _ _ hP.2) (fun q _ h => h.1) _ _ _ _ _ hTP).up)
              have HG6 := Lib.hid (set4_grown (.bool true) (.int .i64 t') (.slice A' n' ca) (.slice B' m' cb) (g + 1) HGX.out hw1r)
              clear hTk hLc hTP hd q2 q3 zf
              go_upto_region 24 with fail
              clear z0 z1 z2 z3 zf0 zf1 zf2 zf3 f0 f1 f2
              generalize ((((W3.setCell ⟨r, 0, none⟩ (.bool true)).setCell ⟨r, 1, none⟩ (.int .i64 t')).setCell ⟨r, 2, none⟩ (.slice A' n' ca)).setCell ⟨r, 3, none⟩ (.slice B' m' cb)) = W6 at *
              have x0 : W6.cell? ⟨r, 0, none⟩ = some (.bool true) := cell_of_row _ _ 0 _ _ (0, 0) K6.out
              have x1 : W6.cell? ⟨r, 1, none⟩ = some (.int .i64 t') := cell_of_row _ _ 1 _ _ (0, 0) K6.out
              have x2 : W6.cell? ⟨r, 2, none⟩ = some ((.slice A' n' ca)) := cell_of_row _ _ 2 _ _ (0, 0) K6.out
              have x3 : W6.cell? ⟨r, 3, none⟩ = some ((.slice B' m' cb)) := cell_of_row _ _ 3 _ _ (0, 0) K6.out
              have hcb6 : W6.heap[g + 1]? = some (.cells #[v] 27 (0, 0)) := (L6.out (g + 1) (by omega)).trans HOW0.out
              have q2 : W6.cell? ⟨g + 1, 0, none⟩ = some v := cell_of_row _ _ 0 _ _ (0, 0) hcb6
              have HCB6 := Lib.hid hcb6
              obtain ⟨cs, hcs, hcl⟩ := HRW0.out.keep (W' := W6) (fun q _ hq => L6.out q hq)
              have hcn := hcs.1
              have HCSA := Lib.hid (hcs.alloc (.cells #[.bool true, .int .i64 t', (.slice A' n' ca), (.slice B' m' cb)] 34))
              have HNEW := Lib.hid (cell_four_new W6 (.bool true) (.int .i64 t') ((.slice A' n' ca)) ((.slice B' m' cb)) 34)
              have HBA4 := Lib.hid (balloc (bref W6) (.cells #[.bool true, .int .i64 t', (.slice A' n' ca), (.slice B' m' cb)] 34))
              have HSZ4 := Lib.hid (alloc_sz W6 (.cells #[.bool true, .int .i64 t', (.slice A' n' ca), (.slice B' m' cb)] 34))
              have HCL := Lib.hid hcl
              have hz6 : r < W6.heap.size := cell_lt x0
              have hgr : g + 2 ≤ r := HRQ.out
              have HMK := Lib.hid (HJ.out.succ HTS.out HMJ.out)
              have HML := Lib.hid HJ.out.1
              clear hcs hcl hcb6
              go_wp2_with (at_builtin; refine wpList_append_lies _ rfl _ _ 25 rfl (g + 2) 34 i4 (.agg #[.bool false, .int .i64 0, .slice none 0 0, .slice none 0 0]) 4 64 Try.underlying25 hi4 hy0 hy1 hy2 rfl (by decide) _ ms.length cs rfl (by exact HCSA.out) ⟨_, 0, none⟩ 1 1 [.bool true, .int .i64 t', (.slice A' n' ca), (.slice B' m' cb)] rfl rfl (by exact HNEW.out) (by intro u hu; simp at hu; rcases hu with rfl | rfl | rfl | rfl <;> rfl) (by omega) (by have := HML.out; unfold maxLen; omega) (by have := HML.out; omega) (by have := HSZ4.out; omega) _ rfl ?_; intro g4 cap4 W7 hown4 hgrow4 hat4 hlt4; have hcb5 : W7.heap[g + 1]? = some (.cells #[v] 27 (0, 0)) := (hgrow4.block (g + 1) (by have := HSZ4.out; omega) (fun e => by have := (HROX.out _ e.symm).1; omega)).trans ((HBA4.out.block (g + 1) (by omega)).trans HCB6.out); have s0 : W7.cell? ⟨g + 1, 0, none⟩ = some v := cell_of_row _ _ 0 _ _ (0, 0) hcb5; have sf : W7.frozen? ⟨g + 1, 0, none⟩ = false := by simp [World.frozen?, hcb5])
              have hgB : (W6.alloc (.cells #[.bool true, .int .i64 t', (.slice A' n' ca), (.slice B' m' cb)] 34)).grownBy W7 v.ownBlock := ⟨hgrow4.os, hgrow4.tape, hgrow4.output, hgrow4.size, hgrow4.block⟩
              have hrow5 := GRow.append (Q := fun b => (P b ∧ b < g) ∨ g + 2 ≤ b) (m := (true, d)) (WA := W6.alloc (.cells #[.bool true, .int .i64 t', (.slice A' n' ca), (.slice B' m' cb)] 34)) (fun k m hm => by
                  obtain ⟨z0, z1, z2, e0, e1, e2, e3, e4⟩ := HCL.out k m hm
                  exact ⟨z0, z1, z2, e0, e1, e2, e3, e4.below HBA4.out⟩) hcn (HT6.out.below HBA4.out) hown4 hgB hat4
              have HROW5 := Lib.hid (hrow5.keep (W' := W7.setCell ⟨g + 1, 0, none⟩ (.slice (some ⟨g4, 0, none⟩) (ms.length + 1) cap4)) (fun q hq _ => Below.heap_setCell _ _ _ _ (by show q ≠ g + 1; rcases hq with (hq | hq) | hq <;> omega)))
              have hset5 : (W7.setCell ⟨g + 1, 0, none⟩ (.slice (some ⟨g4, 0, none⟩) (ms.length + 1) cap4)).heap[g + 1]? = some (.cells #[.slice (some ⟨g4, 0, none⟩) (ms.length + 1) cap4] 27 (0, 0)) := by
                simp [World.setCell, Array.getElem?_modify, hcb5]
              have HSET5 := Lib.hid hset5
              have HGR5 := Lib.hid (grown_at (gown (grown_trans HG6.out (grown_below HBA4.out)) hgB (fun q hq => by have := (HROX.out q hq).1; omega)) 0 (.slice (some ⟨g4, 0, none⟩) (ms.length + 1) cap4))
              clear hown4 hgrow4 hat4 hlt4 hcb5 s0 sf hgB hrow5 hset5
              go_roundw
              case rel => exact ⟨k + 1, _, _, by omega, by go_num, HROW5, HSET5, HMK, HGR5⟩
              case measure => simp [intOf]; omega
            · have z0 : W3.cell? ⟨r, 0, none⟩ = some (.bool false) := cell_of_row _ _ 0 _ _ (0, 0) HZK.out
              have z1 : W3.cell? ⟨r, 1, none⟩ = some (.int .i64 0) := cell_of_row _ _ 1 _ _ (0, 0) HZK.out
              have z2 : W3.cell? ⟨r, 2, none⟩ = some (.slice none 0 0) := cell_of_row _ _ 2 _ _ (0, 0) HZK.out
              have z3 : W3.cell? ⟨r, 3, none⟩ = some (.slice none 0 0) := cell_of_row _ _ 3 _ _ (0, 0) HZK.out
              have zf : ∀ j, W3.frozen? ⟨r, j, none⟩ = false := fun j => by simp [World.frozen?, HZK.out]
              have zf0 := zf 0
              have zf1 := zf 1
              have zf2 := zf 2
              have zf3 := zf 3
              clear zf
              have q1 : ((nd : Int) == 1) = false := by rw [beq_eq_false_iff_ne]; omega
              cases all
              · have HMJ := Lib.hid (join_more (all := false) (n := (n : Int)) (thr := 1) HDF.out HWU.out (by rw [HNT.out]; exact hm3) (by rw [HND.out]; omega) (by simp [HND.out]))
                have HLP := Lib.hid (HZL.out.both (w' := W3) (Q := fun b => (((P b ∧ b < g) ∨ g + 2 ≤ b) ∧ v.ownBlock ≠ some b) ∧ b ≠ r) (fun _ _ _ => rfl) (fun b hb hP => joinQ HNOB.out (by omega) hP))
                have K6 := Lib.hid (show ((((W3.setCell ⟨r, 0, none⟩ (.bool true)).setCell ⟨r, 1, none⟩ (.int .i64 1)).setCell ⟨r, 2, none⟩ (.slice none 0 0)).setCell ⟨r, 3, none⟩ (.slice Ad nd cd)).heap[r]? = some (.cells #[.bool true, .int .i64 1, .slice none 0 0, .slice Ad nd cd] 34 (0, 0)) by
                  have h := set4_row (.bool true) (.int .i64 1) (.slice none 0 0) (.slice Ad nd cd) HZK.out
                  exact h)
                have FAR := (fun q (hne : q ≠ r) => set4_far _ _ _ _ hne : ∀ q, q ≠ r → ((((W3.setCell ⟨r, 0, none⟩ (.bool true)).setCell ⟨r, 1, none⟩ (.int .i64 1)).setCell ⟨r, 2, none⟩ (.slice none 0 0)).setCell ⟨r, 3, none⟩ (.slice Ad nd cd)).heap[q]? = W3.heap[q]?)
                have L6 := Lib.hid (fun q (hq : q < wo.heap.size) => (FAR q (by omega)).trans (HZA.out.block q hq))
                have HT6 := Lib.hid (show TAt (fun b => ((P b ∧ b < g) ∨ g + 2 ≤ b) ∧ v.ownBlock ≠ some b) 3 ((((W3.setCell ⟨r, 0, none⟩ (.bool true)).setCell ⟨r, 1, none⟩ (.int .i64 1)).setCell ⟨r, 2, none⟩ (.slice none 0 0)).setCell ⟨r, 3, none⟩ (.slice Ad nd cd)) (.int .i64 1) (.slice none 0 0) (.slice Ad nd cd) (.mk 1 [] ds) from
                  TAt.of_parts (by simp) (by rw [HND.out]; omega) ⟨none, 0, rfl, fun k hk => by simp at hk⟩ (HLP.out.both (fun q hq hP => FAR q hP.2) (fun _ _ h => h.1)))
                have HG6 := Lib.hid (set4_grown (.bool true) (.int .i64 1) (.slice none 0 0) (.slice Ad nd cd) (g + 1) HGX.out hw1r)
                clear FAR
                go_upto_region 22 with fail
                clear z0 z1 z2 z3 zf0 zf1 zf2 zf3
                have K5 := Lib.hid (set4_row (.bool true) (.int .i64 1) (.slice none 0 0) (.slice Ad nd cd) HZK.out)
                generalize ((((W3.setCell ⟨r, 0, none⟩ (.bool true)).setCell ⟨r, 1, none⟩ (.int .i64 1)).setCell ⟨r, 2, none⟩ (.slice none 0 0)).setCell ⟨r, 3, none⟩ (.slice Ad nd cd)) = W5 at *
                skip
                go_upto_region 24 with fail
                generalize W5 = W6 at *
                have x0 : W6.cell? ⟨r, 0, none⟩ = some (.bool true) := cell_of_row _ _ 0 _ _ (0, 0) K6.out
                have x1 : W6.cell? ⟨r, 1, none⟩ = some (.int .i64 1) := cell_of_row _ _ 1 _ _ (0, 0) K6.out
                have x2 : W6.cell? ⟨r, 2, none⟩ = some ((.slice none 0 0)) := cell_of_row _ _ 2 _ _ (0, 0) K6.out
                have x3 : W6.cell? ⟨r, 3, none⟩ = some ((.slice Ad nd cd)) := cell_of_row _ _ 3 _ _ (0, 0) K6.out
                have hcb6 : W6.heap[g + 1]? = some (.cells #[v] 27 (0, 0)) := (L6.out (g + 1) (by omega)).trans HOW0.out
                have q2 : W6.cell? ⟨g + 1, 0, none⟩ = some v := cell_of_row _ _ 0 _ _ (0, 0) hcb6
                have HCB6 := Lib.hid hcb6
                obtain ⟨cs, hcs, hcl⟩ := HRW0.out.keep (W' := W6) (fun q _ hq => L6.out q hq)
                have hcn := hcs.1
                have HCSA := Lib.hid (hcs.alloc (.cells #[.bool true, .int .i64 1, (.slice none 0 0), (.slice Ad nd cd)] 34))
                have HNEW := Lib.hid (cell_four_new W6 (.bool true) (.int .i64 1) ((.slice none 0 0)) ((.slice Ad nd cd)) 34)
                have HBA4 := Lib.hid (balloc (bref W6) (.cells #[.bool true, .int .i64 1, (.slice none 0 0), (.slice Ad nd cd)] 34))
                have HSZ4 := Lib.hid (alloc_sz W6 (.cells #[.bool true, .int .i64 1, (.slice none 0 0), (.slice Ad nd cd)] 34))
                have HCL := Lib.hid hcl
                have hz6 : r < W6.heap.size := cell_lt x0
                have hgr : g + 2 ≤ r := HRQ.out
                have HMK := Lib.hid (HJ.out.succ HTS.out HMJ.out)
                have HML := Lib.hid HJ.out.1
                clear hcs hcl hcb6
                go_wp2_with (at_builtin; refine wpList_append_lies _ rfl _ _ 25 rfl (g + 2) 34 i4 (.agg #[.bool false, .int .i64 0, .slice none 0 0, .slice none 0 0]) 4 64 Try.underlying25 hi4 hy0 hy1 hy2 rfl (by decide) _ ms.length cs rfl (by exact HCSA.out) ⟨_, 0, none⟩ 1 1 [.bool true, .int .i64 1, (.slice none 0 0), (.slice Ad nd cd)] rfl rfl (by exact HNEW.out) (by intro u hu; simp at hu; rcases hu with rfl | rfl | rfl | rfl <;> rfl) (by omega) (by have := HML.out; unfold maxLen; omega) (by have := HML.out; omega) (by have := HSZ4.out; omega) _ rfl ?_; intro g4 cap4 W7 hown4 hgrow4 hat4 hlt4; have hcb5 : W7.heap[g + 1]? = some (.cells #[v] 27 (0, 0)) := (hgrow4.block (g + 1) (by have := HSZ4.out; omega) (fun e => by have := (HROX.out _ e.symm).1; omega)).trans ((HBA4.out.block (g + 1) (by omega)).trans HCB6.out); have s0 : W7.cell? ⟨g + 1, 0, none⟩ = some v := cell_of_row _ _ 0 _ _ (0, 0) hcb5; have sf : W7.frozen? ⟨g + 1, 0, none⟩ = false := by simp [World.frozen?, hcb5])
                have hgB : (W6.alloc (.cells #[.bool true, .int .i64 1, (.slice none 0 0), (.slice Ad nd cd)] 34)).grownBy W7 v.ownBlock := ⟨hgrow4.os, hgrow4.tape, hgrow4.output, hgrow4.size, hgrow4.block⟩
                have hrow5 := GRow.append (Q := fun b => (P b ∧ b < g) ∨ g + 2 ≤ b) (m := (true, .mk 1 [] ds)) (WA := W6.alloc (.cells #[.bool true, .int .i64 1, (.slice none 0 0), (.slice Ad nd cd)] 34)) (fun k m hm => by
                    obtain ⟨z0, z1, z2, e0, e1, e2, e3, e4⟩ := HCL.out k m hm
                    exact ⟨z0, z1, z2, e0, e1, e2, e3, e4.below HBA4.out⟩) hcn (HT6.out.below HBA4.out) hown4 hgB hat4
                have HROW5 := Lib.hid (hrow5.keep (W' := W7.setCell ⟨g + 1, 0, none⟩ (.slice (some ⟨g4, 0, none⟩) (ms.length + 1) cap4)) (fun q hq _ => Below.heap_setCell _ _ _ _ (by show q ≠ g + 1; rcases hq with (hq | hq) | hq <;> omega)))
                have hset5 : (W7.setCell ⟨g + 1, 0, none⟩ (.slice (some ⟨g4, 0, none⟩) (ms.length + 1) cap4)).heap[g + 1]? = some (.cells #[.slice (some ⟨g4, 0, none⟩) (ms.length + 1) cap4] 27 (0, 0)) := by
                  simp [World.setCell, Array.getElem?_modify, hcb5]
                have HSET5 := Lib.hid hset5
                have HGR5 := Lib.hid (grown_at (gown (grown_trans HG6.out (grown_below HBA4.out)) hgB (fun q hq => by have := (HROX.out q hq).1; omega)) 0 (.slice (some ⟨g4, 0, none⟩) (ms.length + 1) cap4))
                clear hown4 hgrow4 hat4 hlt4 hcb5 s0 sf hgB hrow5 hset5
                go_roundw
                case rel => exact ⟨k + 1, _, _, by omega, by go_num, HROW5, HSET5, HMK, HGR5⟩
                case measure => simp [intOf]; omega
              · have HMJ := Lib.hid (join_more (all := true) (n := (n : Int)) (thr := (nd : Int)) HDF.out HWU.out (by rw [HNT.out]; exact hm3) (by rw [HND.out]; omega) (by simp [HND.out]))
                have HLP := Lib.hid (HZL.out.both (w' := W3) (Q := fun b => (((P b ∧ b < g) ∨ g + 2 ≤ b) ∧ v.ownBlock ≠ some b) ∧ b ≠ r) (fun _ _ _ => rfl) (fun b hb hP => joinQ HNOB.out (by omega) hP))
                have K6 := Lib.hid (show (((((W3.setCell ⟨r, 0, none⟩ (.bool true)).setCell ⟨r, 1, none⟩ (.int .i64 1)).setCell ⟨r, 2, none⟩ (.slice none 0 0)).setCell ⟨r, 3, none⟩ (.slice Ad nd cd)).setCell ⟨r, 1, none⟩ (.int .i64 (nd : Int))).heap[r]? = some (.cells #[.bool true, .int .i64 (nd : Int), .slice none 0 0, .slice Ad nd cd] 34 (0, 0)) by
                  have h := set4_row (.bool true) (.int .i64 1) (.slice none 0 0) (.slice Ad nd cd) HZK.out
                  exact set1_row _ h)
                have FAR := (fun q (hne : q ≠ r) => (Below.heap_setCell _ _ _ q hne).trans (set4_far _ _ _ _ hne) : ∀ q, q ≠ r → (((((W3.setCell ⟨r, 0, none⟩ (.bool true)).setCell ⟨r, 1, none⟩ (.int .i64 1)).setCell ⟨r, 2, none⟩ (.slice none 0 0)).setCell ⟨r, 3, none⟩ (.slice Ad nd cd)).setCell ⟨r, 1, none⟩ (.int .i64 (nd : Int))).heap[q]? = W3.heap[q]?)
                have L6 := Lib.hid (fun q (hq : q < wo.heap.size) => (FAR q (by omega)).trans (HZA.out.block q hq))
                have HT6 := Lib.hid (show TAt (fun b => ((P b ∧ b < g) ∨ g + 2 ≤ b) ∧ v.ownBlock ≠ some b) 3 (((((W3.setCell ⟨r, 0, none⟩ (.bool true)).setCell ⟨r, 1, none⟩ (.int .i64 1)).setCell ⟨r, 2, none⟩ (.slice none 0 0)).setCell ⟨r, 3, none⟩ (.slice Ad nd cd)).setCell ⟨r, 1, none⟩ (.int .i64 (nd : Int))) (.int .i64 (nd : Int)) (.slice none 0 0) (.slice Ad nd cd) (.mk (nd : Int) [] ds) from
                  TAt.of_parts (by simp) (by rw [HND.out]; omega) ⟨none, 0, rfl, fun k hk => by simp at hk⟩ (HLP.out.both (fun q hq hP => FAR q hP.2) (fun _ _ h => h.1)))
                have HG6 := Lib.hid (gset (set4_grown (.bool true) (.int .i64 1) (.slice none 0 0) (.slice Ad nd cd) (g + 1) HGX.out hw1r) (p := ⟨r, 1, none⟩) hw1r (.int .i64 (nd : Int)))
                clear FAR
                go_upto_region 22 with fail
                clear z0 z1 z2 z3 zf0 zf1 zf2 zf3
                have K5 := Lib.hid (set4_row (.bool true) (.int .i64 1) (.slice none 0 0) (.slice Ad nd cd) HZK.out)
                generalize ((((W3.setCell ⟨r, 0, none⟩ (.bool true)).setCell ⟨r, 1, none⟩ (.int .i64 1)).setCell ⟨r, 2, none⟩ (.slice none 0 0)).setCell ⟨r, 3, none⟩ (.slice Ad nd cd)) = W5 at *
                have z1 : W5.cell? ⟨r, 1, none⟩ = some (.int .i64 1) := cell_of_row _ _ 1 _ _ (0, 0) K5.out
                have zf1 : W5.frozen? ⟨r, 1, none⟩ = false := by simp [World.frozen?, K5.out]
                go_upto_region 24 with fail
                clear z1 zf1
                generalize (W5.setCell ⟨r, 1, none⟩ (.int .i64 (nd : Int))) = W6 at *
                have x0 : W6.cell? ⟨r, 0, none⟩ = some (.bool true) := cell_of_row _ _ 0 _ _ (0, 0) K6.out
                have x1 : W6.cell? ⟨r, 1, none⟩ = some (.int .i64 (nd : Int)) := cell_of_row _ _ 1 _ _ (0, 0) K6.out
                have x2 : W6.cell? ⟨r, 2, none⟩ = some ((.slice none 0 0)) := cell_of_row _ _ 2 _ _ (0, 0) K6.out
                have x3 : W6.cell? ⟨r, 3, none⟩ = some ((.slice Ad nd cd)) := cell_of_row _ _ 3 _ _ (0, 0) K6.out
                have hcb6 : W6.heap[g + 1]? = some (.cells #[v] 27 (0, 0)) := (L6.out (g + 1) (by omega)).trans HOW0.out
                have q2 : W6.cell? ⟨g + 1, 0, none⟩ = some v := cell_of_row _ _ 0 _ _ (0, 0) hcb6
                have HCB6 := Lib.hid hcb6
                obtain ⟨cs, hcs, hcl⟩ := HRW0.out.keep (W' := W6) (fun q _ hq => L6.out q hq)
                have hcn := hcs.1
                have HCSA := Lib.hid (hcs.alloc (.cells #[.bool true, .int .i64 (nd : Int), (.slice none 0 0), (.slice Ad nd cd)] 34))
                have HNEW := Lib.hid (cell_four_new W6 (.bool true) (.int .i64 (nd : Int)) ((.slice none 0 0)) ((.slice Ad nd cd)) 34)
                have HBA4 := Lib.hid (balloc (bref W6) (.cells #[.bool true, .int .i64 (nd : Int), (.slice none 0 0), (.slice Ad nd cd)] 34))
                have HSZ4 := Lib.hid (alloc_sz W6 (.cells #[.bool true, .int .i64 (nd : Int), (.slice none 0 0), (.slice Ad nd cd)] 34))
                have HCL := Lib.hid hcl
                have hz6 : r < W6.heap.size := cell_lt x0
                have hgr : g + 2 ≤ r := HRQ.out
                have HMK := Lib.hid (HJ.out.succ HTS.out HMJ.out)
                have HML := Lib.hid HJ.out.1
                clear hcs hcl hcb6
                go_wp2_with (at_builtin; refine wpList_append_lies _ rfl _ _ 25 rfl (g + 2) 34 i4 (.agg #[.bool false, .int .i64 0, .slice none 0 0, .slice none 0 0]) 4 64 Try.underlying25 hi4 hy0 hy1 hy2 rfl (by decide) _ ms.length cs rfl (by exact HCSA.out) ⟨_, 0, none⟩ 1 1 [.bool true, .int .i64 (nd : Int), (.slice none 0 0), (.slice Ad nd cd)] rfl rfl (by exact HNEW.out) (by intro u hu; simp at hu; rcases hu with rfl | rfl | rfl | rfl <;> rfl) (by omega) (by have := HML.out; unfold maxLen; omega) (by have := HML.out; omega) (by have := HSZ4.out; omega) _ rfl ?_; intro g4 cap4 W7 hown4 hgrow4 hat4 hlt4; have hcb5 : W7.heap[g + 1]? = some (.cells #[v] 27 (0, 0)) := (hgrow4.block (g + 1) (by have := HSZ4.out; omega) (fun e => by have := (HROX.out _ e.symm).1; omega)).trans ((HBA4.out.block (g + 1) (by omega)).trans HCB6.out); have s0 : W7.cell? ⟨g + 1, 0, none⟩ = some v := cell_of_row _ _ 0 _ _ (0, 0) hcb5; have sf : W7.frozen? ⟨g + 1, 0, none⟩ = false := by simp [World.frozen?, hcb5])
                have hgB : (W6.alloc (.cells #[.bool true, .int .i64 (nd : Int), (.slice none 0 0), (.slice Ad nd cd)] 34)).grownBy W7 v.ownBlock := ⟨hgrow4.os, hgrow4.tape, hgrow4.output, hgrow4.size, hgrow4.block⟩
                have hrow5 := GRow.append (Q := fun b => (P b ∧ b < g) ∨ g + 2 ≤ b) (m := (true, .mk (nd : Int) [] ds)) (WA := W6.alloc (.cells #[.bool true, .int .i64 (nd : Int), (.slice none 0 0), (.slice Ad nd cd)] 34)) (fun k m hm => by
                    obtain ⟨z0, z1, z2, e0, e1, e2, e3, e4⟩ := HCL.out k m hm
                    exact ⟨z0, z1, z2, e0, e1, e2, e3, e4.below HBA4.out⟩) hcn (HT6.out.below HBA4.out) hown4 hgB hat4
                have HROW5 := Lib.hid (hrow5.keep (W' := W7.setCell ⟨g + 1, 0, none⟩ (.slice (some ⟨g4, 0, none⟩) (ms.length + 1) cap4)) (fun q hq _ => Below.heap_setCell _ _ _ _ (by show q ≠ g + 1; rcases hq with (hq | hq) | hq <;> omega)))
                have hset5 : (W7.setCell ⟨g + 1, 0, none⟩ (.slice (some ⟨g4, 0, none⟩) (ms.length + 1) cap4)).heap[g + 1]? = some (.cells #[.slice (some ⟨g4, 0, none⟩) (ms.length + 1) cap4] 27 (0, 0)) := by
                  simp [World.setCell, Array.getElem?_modify, hcb5]
                have HSET5 := Lib.hid hset5
                have HGR5 := Lib.hid (grown_at (gown (grown_trans HG6.out (grown_below HBA4.out)) hgB (fun q hq => by have := (HROX.out q hq).1; omega)) 0 (.slice (some ⟨g4, 0, none⟩) (ms.length + 1) cap4))
                clear hown4 hgrow4 hat4 hlt4 hcb5 s0 sf hgB hrow5 hset5
                go_roundw
                case rel => exact ⟨k + 1, _, _, by omega, by go_num, HROW5, HSET5, HMK, HGR5⟩
                case measure => simp [intOf]; omega
    · obtain rfl : k = n := by omega
      have hvs : ∃ A c, v = .slice A ms.length c := (hRow.out.mems (P := fun _ => True) (fun _ _ => trivial)).slice
      obtain ⟨Av, cv, rfl⟩ := hvs
      have HOKJ := Lib.hid (HJ.out.ok HN.out)
      obtain ⟨nv, hnv⟩ : ∃ nv, ms.length = nv := ⟨_, rfl⟩
      have HNV := Lib.hid hnv
      have HMS := Lib.hid (hRow.out.mems (P := fun _ => True) (fun _ _ => trivial))
      have HMG := Lib.hid (hRow.out.mems (P := fun b => (P b ∨ w.heap.size ≤ b) ∧ b ≠ g) (fun b hb => by
        have hG := HG.out
        rcases hb with (hb | hb) | hb
        · exact ⟨.inl hb.1, by omega⟩
        · exact ⟨.inr (by omega), by omega⟩
        · exact ⟨.inr (by omega), by omega⟩))
      rw [hnv] at HMS hOut HMG
      have hnvk : nv = k := by rw [← hnv, HJ.out.1]
      clear hnv hRow
      subst hnvk
      have c2 : wr.cell? ⟨g + 1, 0, none⟩ = some (.slice Av nv cv) := cell_of_row _ _ 0 _ _ (0, 0) hOut.out
      have hres : wr.heap[g]? = some (.cells #[.slice none 0 0] 27 (0, 0)) := (hGr.out.block g (by omega) (by simp)).trans K0.out
      have HRES := Lib.hid hres
      have hgl : g < wr.heap.size := by omega
      have hgl1 : g + 1 < wr.heap.size := by omega
      have HBW := Lib.hid (show Below w.heap.size w wr by
        have h1 := HB.out
        rw [← HG.out] at h1
        exact h1.grown hGr.out h1.size (fun q hq => by obtain rfl := Option.some.inj hq; have := HG.out; omega))
      clear hres hGr
      go_wp2_with fail
      refine (D3.rcvalid_run _ ms _ _ (by rw [HNV.out]; omega) HMS.out HOKJ.out).mono ?_
      rintro e Wc ⟨rfl, hbc⟩
      have c3 := (hbc.cell (cell_lt c2)).trans c2
      have hrc := (hbc.block g hgl).trans HRES.out
      have z0 : Wc.cell? ⟨g, 0, none⟩ = some (.slice none 0 0) := cell_of_row _ _ 0 _ _ (0, 0) hrc
      have zf : Wc.frozen? ⟨g, 0, none⟩ = false := by simp [World.frozen?, hrc]
      have hset : (Wc.setCell ⟨g, 0, none⟩ (.slice Av nv cv)).heap[g]? = some (.cells #[.slice Av nv cv] 27 (0, 0)) := by
        simp [World.setCell, Array.getElem?_modify, hrc]
      have Q0 := Lib.hid (show (Wc.setCell ⟨g, 0, none⟩ (.slice Av nv cv)).cell? ⟨g, 0, none⟩ = some (.slice Av nv cv) from cell_of_row _ _ 0 _ _ (0, 0) hset)
      have HF := Lib.hid (show MemsAt (fun b => P b ∨ w.heap.size ≤ b) 3 (Wc.setCell ⟨g, 0, none⟩ (.slice Av nv cv)) (.slice Av nv cv) ms ∧ JoinL all nv tss nv ms ∧ Below w.heap.size w (Wc.setCell ⟨g, 0, none⟩ (.slice Av nv cv)) from
        ⟨((HMG.out.below hbc).both (Q := fun b => P b ∨ w.heap.size ≤ b) (fun q hq hP => Below.heap_setCell _ _ _ q hP.2) (fun _ _ h => h.1)), HJ.out, bset (bstep HBW.out hbc) (p := ⟨g, 0, none⟩) (by have := HG.out; show w.heap.size ≤ g; omega) _⟩)
      clear hset hrc hbc c2
      go_wp2_with fail
      have q0 := Q0.out
      refine bodyPost_ret (v := .tuple #[.agg #[.slice Av nv cv], .int .i64 0]) ?_ rfl ⟨_, ms, rfl, HF.out⟩
      simp [results, Try.results64, go_sem, q0]

end Go.Proofs.Ytnfdacfhhkahhaa

namespace Go.Proofs.Ytnfdacfhhkahhaa
set_option linter.unusedVariables false
set_option linter.unusedSimpArgs false
open Go.RowKit

structure NearW (P : Nat → Prop) (w : World) (sb g : Nat) (t : Int) (v1 v2 : Value) (T : Tree) (W : World) : Prop where
  box : W.heap[g]? = some (.cells #[.int .i64 t, v1, v2] 32 (0, 0))
  res : W.heap[g + 1]? = some (.cells #[.int .i64 0, .slice none 0 0, .slice none 0 0] 32 (0, 0))
  tat : TAt (fun b => P b ∧ b < g) 2 W (.int .i64 t) v1 v2 T
  tape : TapeOk W sb
  gr : w.grownBy W (some sb)

theorem NearW.grow {P : Nat → Prop} {w W W' : World} {sb g : Nat} {t : Int} {v1 v2 : Value} {T : Tree} (h : NearW P w sb g t v1 v2 T W) (hP : ∀ b, P b → b ≠ sb) (hg : sb < g) (hs : TapeOk W' sb) (hr : W.grownBy W' (some sb)) : NearW P w sb g t v1 v2 T W' :=
  ⟨(hr.block _ (Array.getElem?_eq_some_iff.1 h.box).1 (by simp; omega)).trans h.box, (hr.block _ (Array.getElem?_eq_some_iff.1 h.res).1 (by simp; omega)).trans h.res, h.tat.keep (fun k hk hp => hr.block k hk (by simp; exact fun e => hP k hp.1 e)), hs, grown_trans h.gr hr⟩

theorem set3_row {W : World} {r : Nat} {a0 a1 a2 : Value} {t : TypeId} (u0 u1 u2 : Value) (h : W.heap[r]? = some (.cells #[a0, a1, a2] t (0, 0))) : (((W.setCell ⟨r, 0, none⟩ u0).setCell ⟨r, 1, none⟩ u1).setCell ⟨r, 2, none⟩ u2).heap[r]? = some (.cells #[u0, u1, u2] t (0, 0)) := by
  simp [World.setCell, Array.getElem?_modify, h]

theorem set3_far {W : World} {r q : Nat} (u0 u1 u2 : Value) (h : q ≠ r) : (((W.setCell ⟨r, 0, none⟩ u0).setCell ⟨r, 1, none⟩ u1).setCell ⟨r, 2, none⟩ u2).heap[q]? = W.heap[q]? :=
  (Below.heap_setCell _ _ _ q h).trans ((Below.heap_setCell _ _ _ q h).trans (Below.heap_setCell _ _ _ q h))

theorem set1of3 {W : World} {r : Nat} {a0 a1 a2 : Value} {t : TypeId} (u : Value) (h : W.heap[r]? = some (.cells #[a0, a1, a2] t (0, 0))) : (W.setCell ⟨r, 0, none⟩ u).heap[r]? = some (.cells #[u, a1, a2] t (0, 0)) := by
  simp [World.setCell, Array.getElem?_modify, h]

theorem TAt.thr_set {P : Nat → Prop} {d : Nat} {w : World} {t t' : Int} {v1 v2 : Value} {thr : Int} {ns : List Int} {is : List Tree} (h : TAt P (d + 1) w (.int .i64 t) v1 v2 (.mk thr ns is)) : TAt P (d + 1) w (.int .i64 t') v1 v2 (.mk t' ns is) := by
  obtain ⟨_, h1, h2, h3, h4⟩ := h
  exact ⟨rfl, h1, h2, h3, h4⟩

theorem WF.thr_set {n : Int} {d : Nat} {thr t' : Int} {ns : List Int} {is : List Tree} (h : WF n (d + 1) (.mk thr ns is)) (h1 : 1 ≤ t') (h2 : t' ≤ ((ns.length + is.length : Nat) : Int)) : WF n (d + 1) (.mk t' ns is) := by
  obtain ⟨_, _, h3, h4, h5, h6, h7⟩ := h
  exact ⟨h1, h2, h3, h4, h5, h6, h7⟩

set_option maxRecDepth 100000 in
set_option maxHeartbeats 8000000 in
theorem near_run (P : Nat → Prop) (sb n : Nat) (hn : 1 ≤ n) (hn1 : n ≤ 10) (T : Tree) (v0 v1 v2 : Value) (w : World) (hs : TapeOk w sb) (hP : ∀ b, P b → b ≠ sb) (h : TAt P 2 w v0 v1 v2 T) (hW : WF n 2 T) :
    Calls Try.prog 39 #[.pointer (some ⟨sb, 0, none⟩), .agg #[v0, v1, v2], .int .i64 (n : Int)] w fun e w' => ∃ (y0 y1 y2 : Value) (U : Tree), e = .returned (.agg #[y0, y1, y2]) ∧ TAt (fun b => P b ∨ w.heap.size ≤ b) 2 w' y0 y1 y2 U ∧ WF n 2 U ∧ TapeOk w' sb ∧ w.grownBy w' (some sb) := by
  obtain ⟨thr, ns, is⟩ := T
  obtain ⟨t, A1, n1, c1, A2, n2, c2, rfl, rfl, rfl⟩ := h.form
  obtain ⟨hth, _, _, hN, hL⟩ := h.parts
  have hthr : t = thr := by cases hth; rfl
  subst hthr
  obtain ⟨A', c', hA'⟩ := hN.slice
  obtain ⟨B', e', hB'⟩ := hL.slice
  have hn1e : n1 = ns.length := by cases hA'; rfl
  have hn2e : n2 = is.length := by cases hB'; rfl
  have hWb : 1 ≤ t ∧ t ≤ ((ns.length + is.length : Nat) : Int) ∧ ns.length ≤ 10 ∧ is.length ≤ 3 := ⟨hW.1, hW.2.1, hW.2.2.1, hW.2.2.2.1⟩
  have hsl := hs.lt
  have hb2 : Below w.heap.size w ((w.alloc (.cells #[.int .i64 t, .slice A1 n1 c1, .slice A2 n2 c2] 32)).alloc (.cells #[.int .i64 0, .slice none 0 0, .slice none 0 0] 32)) := balloc (balloc (bref w) _) _
  have HW0 := Lib.hid (show NearW P w sb w.heap.size t (.slice A1 n1 c1) (.slice A2 n2 c2) (.mk t ns is) ((w.alloc (.cells #[.int .i64 t, .slice A1 n1 c1, .slice A2 n2 c2] 32)).alloc (.cells #[.int .i64 0, .slice none 0 0, .slice none 0 0] 32)) from
    ⟨alloc_on (alloc_at rfl), alloc_at (alloc_sz _ _), (h.imp (Q := fun b => P b ∧ b < w.heap.size) (fun k hk hp => ⟨hp, hk⟩)).below hb2, (hs.alloc _).alloc _, grown_below hb2⟩)
  have HWF := Lib.hid hW
  have HPS := Lib.hid hP
  have HNE := Lib.hid (And.intro hn1e hn2e)
  rw [← hn1e, ← hn2e] at hWb
  obtain ⟨hw1, hw2, hw3, hw4⟩ := hWb
  clear h hs hP hN hL hth hA' hB' hn1e hn2e hb2 hW
  go_enter Try.func39, Try.ntmps39
  go_upto_region 1 with fail
  generalize ((w.alloc (.cells #[.int .i64 t, .slice A1 n1 c1, .slice A2 n2 c2] 32)).alloc (.cells #[.int .i64 0, .slice none 0 0, .slice none 0 0] 32)) = W1 at *
  generalize hg : w.heap.size = g at *
  have HG := Lib.hid hg
  clear hg
  go_wp2_with fail
  refine (TN_run _ sb _ (by omega) (by omega) HW0.out.tape).mono ?_
  rintro e W2 ⟨r, hr0, hr1, rfl, hs2, hg2⟩
  have HW2 := Lib.hid (HW0.out.grow HPS.out hsl hs2 hg2)
  clear hs2 hg2 HW0
  have b0 : W2.cell? ⟨g, 0, none⟩ = some (.int .i64 t) := cell_of_row _ _ 0 _ _ (0, 0) HW2.out.box
  have b1 : W2.cell? ⟨g, 1, none⟩ = some (.slice A1 n1 c1) := cell_of_row _ _ 1 _ _ (0, 0) HW2.out.box
  have b2 : W2.cell? ⟨g, 2, none⟩ = some (.slice A2 n2 c2) := cell_of_row _ _ 2 _ _ (0, 0) HW2.out.box
  have bf : W2.frozen? ⟨g, 0, none⟩ = false := by simp [World.frozen?, HW2.out.box]
  have z0 : W2.cell? ⟨g + 1, 0, none⟩ = some (.int .i64 0) := cell_of_row _ _ 0 _ _ (0, 0) HW2.out.res
  have z1 : W2.cell? ⟨g + 1, 1, none⟩ = some (.slice none 0 0) := cell_of_row _ _ 1 _ _ (0, 0) HW2.out.res
  have z2 : W2.cell? ⟨g + 1, 2, none⟩ = some (.slice none 0 0) := cell_of_row _ _ 2 _ _ (0, 0) HW2.out.res
  have zf : ∀ j, W2.frozen? ⟨g + 1, j, none⟩ = false := fun j => by simp [World.frozen?, HW2.out.res]
  have zf0 := zf 0
  have zf1 := zf 1
  have zf2 := zf 2
  clear zf
  have hgl1 : g + 1 < W2.heap.size := cell_lt z0
  -- what is left of a case in which the threshold is set to x
  have FIN : Hid (∀ x : Int, 1 ≤ x → x ≤ ((n1 + n2 : Nat) : Int) → ((((W2.setCell ⟨g, 0, none⟩ (.int .i64 x)).setCell ⟨g + 1, 0, none⟩ (.int .i64 x)).setCell ⟨g + 1, 1, none⟩ (.slice A1 n1 c1)).setCell ⟨g + 1, 2, none⟩ (.slice A2 n2 c2)).cell? ⟨g + 1, 0, none⟩ = some (.int .i64 x) ∧ ((((W2.setCell ⟨g, 0, none⟩ (.int .i64 x)).setCell ⟨g + 1, 0, none⟩ (.int .i64 x)).setCell ⟨g + 1, 1, none⟩ (.slice A1 n1 c1)).setCell ⟨g + 1, 2, none⟩ (.slice A2 n2 c2)).cell? ⟨g + 1, 1, none⟩ = some (.slice A1 n1 c1) ∧ ((((W2.setCell ⟨g, 0, none⟩ (.int .i64 x)).setCell ⟨g + 1, 0, none⟩ (.int .i64 x)).setCell ⟨g + 1, 1, none⟩ (.slice A1 n1 c1)).setCell ⟨g + 1, 2, none⟩ (.slice A2 n2 c2)).cell? ⟨g + 1, 2, none⟩ = some (.slice A2 n2 c2) ∧ ∃ (y0 y1 y2 : Value) (U : Tree), Ending.returned (.agg #[.int .i64 x, .slice A1 n1 c1, .slice A2 n2 c2]) = .returned (.agg #[y0, y1, y2]) ∧ TAt (fun b => P b ∨ w.heap.size ≤ b) 2 ((((W2.setCell ⟨g, 0, none⟩ (.int .i64 x)).setCell ⟨g + 1, 0, none⟩ (.int .i64 x)).setCell ⟨g + 1, 1, none⟩ (.slice A1 n1 c1)).setCell ⟨g + 1, 2, none⟩ (.slice A2 n2 c2)) y0 y1 y2 U ∧ WF n 2 U ∧ TapeOk ((((W2.setCell ⟨g, 0, none⟩ (.int .i64 x)).setCell ⟨g + 1, 0, none⟩ (.int .i64 x)).setCell ⟨g + 1, 1, none⟩ (.slice A1 n1 c1)).setCell ⟨g + 1, 2, none⟩ (.slice A2 n2 c2)) sb ∧ w.grownBy ((((W2.setCell ⟨g, 0, none⟩ (.int .i64 x)).setCell ⟨g + 1, 0, none⟩ (.int .i64 x)).setCell ⟨g + 1, 1, none⟩ (.slice A1 n1 c1)).setCell ⟨g + 1, 2, none⟩ (.slice A2 n2 c2)) (some sb)) := Lib.hid (fun x h1 h2 => by
    have hn := HNE.out
    have hrow := set3_row (.int .i64 x) (.slice A1 n1 c1) (.slice A2 n2 c2) ((Below.heap_setCell W2 ⟨g, 0, none⟩ (.int .i64 x) (g + 1) (by show g + 1 ≠ g; omega)).trans HW2.out.res)
    refine ⟨cell_of_row _ _ 0 _ _ (0, 0) hrow, cell_of_row _ _ 1 _ _ (0, 0) hrow, cell_of_row _ _ 2 _ _ (0, 0) hrow, _, _, _, .mk x ns is, rfl, ?_, HWF.out.thr_set h1 (by omega), ?_, ?_⟩
    · refine TAt.both (w := W2) (fun q hq hP => ?_) (fun q _ hP => .inl hP.1) _ _ _ _ _ (HW2.out.tat.thr_set (t' := x))
      exact (set3_far _ _ _ (by omega)).trans (Below.heap_setCell _ _ _ q (by show q ≠ g; omega))
    · exact (((HW2.out.tape.setCell (p := ⟨g, 0, none⟩) (by omega) _).setCell (p := ⟨g + 1, 0, none⟩) (by show sb < g + 1; omega) _).setCell (p := ⟨g + 1, 1, none⟩) (by show sb < g + 1; omega) _).setCell (p := ⟨g + 1, 2, none⟩) (by show sb < g + 1; omega) _
    · have hG := HG.out
      exact gset (gset (gset (gset HW2.out.gr (p := ⟨g, 0, none⟩) (by show w.heap.size ≤ g; omega) _) (p := ⟨g + 1, 0, none⟩) (by show w.heap.size ≤ g + 1; omega) _) (p := ⟨g + 1, 1, none⟩) (by show w.heap.size ≤ g + 1; omega) _) (p := ⟨g + 1, 2, none⟩) (by show w.heap.size ≤ g + 1; omega) _)
  have hr3 : r = 0 ∨ r = 1 ∨ r = 2 := by omega
  rcases hr3 with rfl | rfl | rfl
  · by_cases hmin : ((n1 : Int) + (n2 : Int)) ≤ t + 1
    · skip
      have HF := Lib.hid (FIN.out ((n1 : Int) + (n2 : Int)) (by omega) (by omega))
      go_wp2_with fail
      obtain ⟨q0, q1, q2, HR⟩ := HF.out
      refine bodyPost_ret (v := .agg #[.int .i64 ((n1 : Int) + (n2 : Int)), .slice A1 n1 c1, .slice A2 n2 c2]) ?_ rfl (by obtain ⟨y0, y1, y2, U, h1, h2⟩ := HR; first | exact ⟨y0, y1, y2, U, h1, h2⟩ | exact ⟨y0, y1, y2, h1, U, h2⟩)
      simp [results, Try.results39, go_sem, q0, q1, q2]
    · skip
      have HF := Lib.hid (FIN.out (t + 1) (by omega) (by omega))
      go_wp2_with fail
      obtain ⟨q0, q1, q2, HR⟩ := HF.out
      refine bodyPost_ret (v := .agg #[.int .i64 (t + 1), .slice A1 n1 c1, .slice A2 n2 c2]) ?_ rfl (by obtain ⟨y0, y1, y2, U, h1, h2⟩ := HR; first | exact ⟨y0, y1, y2, U, h1, h2⟩ | exact ⟨y0, y1, y2, h1, U, h2⟩)
      simp [results, Try.results39, go_sem, q0, q1, q2]
  · by_cases hmin : ¬ t - 1 ≤ 1
    · skip
      have HF := Lib.hid (FIN.out (t - 1) (by omega) (by omega))
      go_wp2_with fail
      obtain ⟨q0, q1, q2, HR⟩ := HF.out
      refine bodyPost_ret (v := .agg #[.int .i64 (t - 1), .slice A1 n1 c1, .slice A2 n2 c2]) ?_ rfl (by obtain ⟨y0, y1, y2, U, h1, h2⟩ := HR; first | exact ⟨y0, y1, y2, U, h1, h2⟩ | exact ⟨y0, y1, y2, h1, U, h2⟩)
      simp [results, Try.results39, go_sem, q0, q1, q2]
    · skip
      have HF := Lib.hid (FIN.out (1) (by omega) (by omega))
      go_wp2_with fail
      obtain ⟨q0, q1, q2, HR⟩ := HF.out
      refine bodyPost_ret (v := .agg #[.int .i64 (1), .slice A1 n1 c1, .slice A2 n2 c2]) ?_ rfl (by obtain ⟨y0, y1, y2, U, h1, h2⟩ := HR; first | exact ⟨y0, y1, y2, U, h1, h2⟩ | exact ⟨y0, y1, y2, h1, U, h2⟩)
      simp [results, Try.results39, go_sem, q0, q1, q2]
  · go_wp2_with fail
    refine (mkTrust_run sb n hn hn1 1 (by omega) _ HW2.out.tape).mono ?_
    rintro e W5 ⟨y0, y1, y2, U, rfl, hT5, hf5, hs5, hg5⟩
    obtain ⟨t', A', n', c', B', m', e', rfl, rfl, rfl⟩ := hT5.form
    have hres5 := (hg5.block (g + 1) hgl1 (by simp; omega)).trans HW2.out.res
    have y0 : W5.cell? ⟨g + 1, 0, none⟩ = some (.int .i64 0) := cell_of_row _ _ 0 _ _ (0, 0) hres5
    have y1 : W5.cell? ⟨g + 1, 1, none⟩ = some (.slice none 0 0) := cell_of_row _ _ 1 _ _ (0, 0) hres5
    have y2 : W5.cell? ⟨g + 1, 2, none⟩ = some (.slice none 0 0) := cell_of_row _ _ 2 _ _ (0, 0) hres5
    have yf : ∀ j, W5.frozen? ⟨g + 1, j, none⟩ = false := fun j => by simp [World.frozen?, hres5]
    have yf0 := yf 0
    have yf1 := yf 1
    have yf2 := yf 2
    have hrow := set3_row (.int .i64 t') (.slice A' n' c') (.slice B' m' e') hres5
    have HQ := Lib.hid (show (((W5.setCell ⟨g + 1, 0, none⟩ (.int .i64 t')).setCell ⟨g + 1, 1, none⟩ (.slice A' n' c')).setCell ⟨g + 1, 2, none⟩ (.slice B' m' e')).cell? ⟨g + 1, 0, none⟩ = some (.int .i64 t') ∧ (((W5.setCell ⟨g + 1, 0, none⟩ (.int .i64 t')).setCell ⟨g + 1, 1, none⟩ (.slice A' n' c')).setCell ⟨g + 1, 2, none⟩ (.slice B' m' e')).cell? ⟨g + 1, 1, none⟩ = some (.slice A' n' c') ∧ (((W5.setCell ⟨g + 1, 0, none⟩ (.int .i64 t')).setCell ⟨g + 1, 1, none⟩ (.slice A' n' c')).setCell ⟨g + 1, 2, none⟩ (.slice B' m' e')).cell? ⟨g + 1, 2, none⟩ = some (.slice B' m' e') from
      ⟨cell_of_row _ _ 0 _ _ (0, 0) hrow, cell_of_row _ _ 1 _ _ (0, 0) hrow, cell_of_row _ _ 2 _ _ (0, 0) hrow⟩)
    have HF := Lib.hid (show TAt (fun b => P b ∨ w.heap.size ≤ b) 2 (((W5.setCell ⟨g + 1, 0, none⟩ (.int .i64 t')).setCell ⟨g + 1, 1, none⟩ (.slice A' n' c')).setCell ⟨g + 1, 2, none⟩ (.slice B' m' e')) (.int .i64 t') (.slice A' n' c') (.slice B' m' e') U ∧ WF n 2 U ∧ TapeOk (((W5.setCell ⟨g + 1, 0, none⟩ (.int .i64 t')).setCell ⟨g + 1, 1, none⟩ (.slice A' n' c')).setCell ⟨g + 1, 2, none⟩ (.slice B' m' e')) sb ∧ w.grownBy (((W5.setCell ⟨g + 1, 0, none⟩ (.int .i64 t')).setCell ⟨g + 1, 1, none⟩ (.slice A' n' c')).setCell ⟨g + 1, 2, none⟩ (.slice B' m' e')) (some sb) from
      ⟨TAt.both (w := W5) (fun q hq hP => set3_far _ _ _ (by omega)) (fun q _ hP => .inr (by have := HG.out; omega)) _ _ _ _ _ hT5, hf5.1, ((hs5.setCell (p := ⟨g + 1, 0, none⟩) (by show sb < g + 1; omega) _).setCell (p := ⟨g + 1, 1, none⟩) (by show sb < g + 1; omega) _).setCell (p := ⟨g + 1, 2, none⟩) (by show sb < g + 1; omega) _,
        gset (gset (gset (grown_trans HW2.out.gr hg5) (p := ⟨g + 1, 0, none⟩) (by have := HG.out; show w.heap.size ≤ g + 1; omega) _) (p := ⟨g + 1, 1, none⟩) (by have := HG.out; show w.heap.size ≤ g + 1; omega) _) (p := ⟨g + 1, 2, none⟩) (by have := HG.out; show w.heap.size ≤ g + 1; omega) _⟩)
    clear hT5 hf5 hs5 hg5 hres5 yf hrow b0 b1 b2 bf z0 z1 z2 zf0 zf1 zf2 FIN
    go_wp2_with fail
    obtain ⟨q0, q1, q2⟩ := HQ.out
    refine bodyPost_ret (v := .agg #[.int .i64 t', .slice A' n' c', .slice B' m' e']) ?_ rfl ⟨_, _, _, U, rfl, HF.out⟩
    simp [results, Try.results39, go_sem, q0, q1, q2]

end Go.Proofs.Ytnfdacfhhkahhaa

namespace Go.Proofs.Ytnfdacfhhkahhaa
set_option linter.unusedVariables false
set_option linter.unusedSimpArgs false
open Go.RowKit

/-- A pair of configurations: as many members, the same ones declared, and what satisfies a trust of High satisfies that of Low. -/
structure PairM (ls hs : List Mem) : Prop where
  len : hs.length = ls.length
  one : 1 ≤ ls.length
  okl : D3.MemsOk ls.length ls
  okh : D3.MemsOk hs.length hs
  dec : ∀ (k : Nat) (l h : Mem), ls[k]? = some l → hs[k]? = some h → h.1 = l.1
  imp : ∀ (k : Nat) (l h : Mem), ls[k]? = some l → hs[k]? = some h → l.1 = true → ∀ p, holdsT 3 p h.2 = true → holdsT 3 p l.2 = true

theorem PairM.same {ms : List Mem} (h1 : 1 ≤ ms.length) (h : D3.MemsOk ms.length ms) : PairM ms ms :=
  ⟨rfl, h1, h, h, fun k l x e1 e2 => by rw [e1] at e2; cases e2; rfl, fun k l x e1 e2 _ p hp => by rw [e1] at e2; cases e2; exact hp⟩

theorem PairM.joined {n : Nat} {tss : List (List Tree)} {ls hs : List Mem} (h1 : 1 ≤ n) (hn : tss.length = n) (hl : JoinL false (n : Int) tss n ls) (hh : JoinL true (n : Int) tss n hs) : PairM ls hs := by
  refine ⟨by rw [hl.1, hh.1], by rw [hl.1]; exact h1, hl.ok hn, hh.ok hn, fun k l h e1 e2 => ?_, fun k l h e1 e2 hd p hp => ?_⟩
  · have hk : k < tss.length := by have := (List.getElem?_eq_some_iff.1 e1).1; have := hl.1; omega
    have a := hl.2 k _ l (List.getElem?_eq_getElem hk) e1
    have b := hh.2 k _ h (List.getElem?_eq_getElem hk) e2
    by_cases h0 : tss[k] = []
    · rw [a.1 h0, b.1 h0]
    · rw [(a.2 h0).1, (b.2 h0).1]
  · have hk : k < tss.length := by have := (List.getElem?_eq_some_iff.1 e1).1; have := hl.1; omega
    have a := hl.2 k _ l (List.getElem?_eq_getElem hk) e1
    have b := hh.2 k _ h (List.getElem?_eq_getElem hk) e2
    by_cases h0 : tss[k] = []
    · rw [a.1 h0] at hd; cases hd
    · obtain ⟨_, _, ds, hne, hm, he⟩ := a.2 h0
      obtain ⟨_, _, ds', hne', hm', he'⟩ := b.2 h0
      rw [he' p, if_pos rfl, List.all_eq_true] at hp
      rw [he p, if_neg (by simp), List.any_eq_true]
      obtain ⟨d, hd⟩ := List.exists_mem_of_ne_nil ds hne
      exact ⟨d, hd, hp d ((hm' d).2 ((hm d).1 hd))⟩

/-- A row of lists of trusts of its own. -/
def LRow (Q : Nat → Prop) (B : Nat) (W : World) (v : Value) (tss : List (List Tree)) : Prop :=
  ∃ us : List Value, W.ownsRow B 30 1 v tss.length us ∧ ∀ (k : Nat) (u : Value) (ts : List Tree), us[k]? = some u → tss[k]? = some ts → ListT (fun b => Q b ∧ v.ownBlock ≠ some b) 2 W u ts

theorem LRow.nil (Q : Nat → Prop) (B : Nat) (W : World) : LRow Q B W (.slice none 0 0) [] := ⟨[], World.ownsRow_nil _ _ _ _, fun k u ts h => by cases h⟩

theorem LRow.own {Q : Nat → Prop} {B : Nat} {W : World} {v : Value} {tss : List (List Tree)} (h : LRow Q B W v tss) : ∀ j, v.ownBlock = some j → B ≤ j ∧ j < W.heap.size := by
  obtain ⟨cs, h1, _⟩ := h
  exact h1.lt

theorem LRow.keep {Q : Nat → Prop} {B : Nat} {W W' : World} {v : Value} {tss : List (List Tree)} (h : LRow Q B W v tss) (hk : ∀ q, (Q q ∨ B ≤ q) → q < W.heap.size → W'.heap[q]? = W.heap[q]?) : LRow Q B W' v tss := by
  obtain ⟨cs, h1, h2⟩ := h
  exact ⟨cs, own_keepG h1 (fun j _ hB hl => hk j (.inr hB) hl), fun k u ts e1 e2 => (h2 k u ts e1 e2).both (fun q hq hP => hk q (.inl hP.1) hq) (fun _ _ h => h)⟩

theorem LRow.list {Q : Nat → Prop} {B : Nat} {W : World} {v : Value} {tss : List (List Tree)} {P : Nat → Prop} (h : LRow Q B W v tss) (hP : ∀ b, (Q b ∨ B ≤ b) → P b) : LLAt P W v tss := by
  obtain ⟨us, h1, h2⟩ := h
  have hl : us.length = tss.length := by have := h1.1; omega
  rcases h1.2 with ⟨hv, h0⟩ | ⟨g, cap, cur, hv, hb, _⟩
  · exact ⟨none, 0, by rw [hv, h0], fun k T hT => by have := (List.getElem?_eq_some_iff.1 hT).1; omega⟩
  · refine ⟨some ⟨g, 0, none⟩, cap, hv, fun k ts hT => ?_⟩
    obtain ⟨u, hu⟩ : ∃ u, us[k]? = some u := ⟨_, List.getElem?_eq_getElem (by rw [hl]; exact (List.getElem?_eq_some_iff.1 hT).1)⟩
    have := h1.cells (g := g) (by rw [hv]; rfl) k u hu
    rw [Addr.add_lit] at this
    exact ⟨g, 0, u, rfl, hP g (.inr hb), this, (h2 k u ts hu hT).both (fun _ _ _ => rfl) (fun b _ h => hP b (.inl h.1))⟩

theorem LRow.append {Q : Nat → Prop} {B : Nat} {WA W4 : World} {lv u : Value} {tss : List (List Tree)} {ts : List Tree} {g4 cap4 : Nat} {us : List Value}
    (hcl : ∀ (k : Nat) (u : Value) (ts : List Tree), us[k]? = some u → tss[k]? = some ts → ListT (fun b => Q b ∧ lv.ownBlock ≠ some b) 2 WA u ts) (hcn : us.length = tss.length)
    (hT : ListT (fun b => Q b ∧ lv.ownBlock ≠ some b) 2 WA u ts)
    (hown4 : W4.ownsRow B 30 1 (.slice (some ⟨g4, 0, none⟩) (tss.length + 1) cap4) (tss.length + 1) (us ++ [u])) (hg4 : WA.grownBy W4 lv.ownBlock) (hat4 : lv.ownBlock = some g4 ∨ g4 = WA.heap.size) :
    LRow Q B W4 (.slice (some ⟨g4, 0, none⟩) (tss.length + 1) cap4) (tss ++ [ts]) := by
  have up : ∀ {y : Value} {S : List Tree}, ListT (fun b => Q b ∧ lv.ownBlock ≠ some b) 2 WA y S → ListT (fun b => Q b ∧ (Value.slice (some ⟨g4, 0, none⟩) (tss.length + 1) cap4).ownBlock ≠ some b) 2 W4 y S := fun h =>
    h.both (fun q hq hP => hg4.block q hq (fun e => hP.2 e.symm)) (fun q hq hP => ⟨hP.1, fun e => by
      have e' : g4 = q := by simpa [Value.ownBlock] using e
      rcases hat4 with hat | hat
      · exact hP.2 (by rw [hat, e'])
      · omega⟩)
  refine ⟨us ++ [u], by simpa using hown4, fun k y S e1 e2 => ?_⟩
  rcases Nat.lt_or_ge k tss.length with hk | hk
  · rw [List.getElem?_append_left (by omega)] at e1
    rw [List.getElem?_append_left hk] at e2
    exact up (hcl k y S e1 e2)
  · have hk2 : k = tss.length := by
      have := (List.getElem?_eq_some_iff.1 e2).1
      simp at this; omega
    subst hk2
    have e2' : S = ts := by simpa using e2.symm
    rw [List.getElem?_append_right (by omega), hcn, Nat.sub_self] at e1
    have e1' : u = y := by simpa using e1
    subst e2'; subst e1'
    exact up hT

/-- A row of trusts of its own from B on, with what they refer to in blocks of Q and not in the row. -/
def GT (Q : Nat → Prop) (B d : Nat) (W : World) (v : Value) (ts : List Tree) : Prop :=
  ∃ cs : List Value, W.ownsRow B 32 3 v ts.length cs ∧ ∀ (k : Nat) (T : Tree), ts[k]? = some T → ∃ x0 x1 x2, cs[k * 3]? = some x0 ∧ cs[k * 3 + 1]? = some x1 ∧ cs[k * 3 + 2]? = some x2 ∧ TAt (fun b => Q b ∧ v.ownBlock ≠ some b) d W x0 x1 x2 T

theorem GT.nil (Q : Nat → Prop) (B d : Nat) (W : World) : GT Q B d W (.slice none 0 0) [] := ⟨[], World.ownsRow_nil _ _ _ _, fun k T h => by simp at h⟩

theorem GT.own {Q : Nat → Prop} {B d : Nat} {W : World} {v : Value} {ts : List Tree} (h : GT Q B d W v ts) : ∀ j, v.ownBlock = some j → B ≤ j ∧ j < W.heap.size := by
  obtain ⟨cs, h1, _⟩ := h
  exact h1.lt

theorem GT.keep {Q : Nat → Prop} {B d : Nat} {W W' : World} {v : Value} {ts : List Tree} (h : GT Q B d W v ts) (hk : ∀ q, (Q q ∨ B ≤ q) → q < W.heap.size → W'.heap[q]? = W.heap[q]?) : GT Q B d W' v ts := by
  obtain ⟨cs, h1, h2⟩ := h
  refine ⟨cs, own_keepG h1 (fun j _ hB hl => hk j (.inr hB) hl), fun k T hT => ?_⟩
  obtain ⟨x0, x1, x2, e0, e1, e2, e3⟩ := h2 k T hT
  exact ⟨x0, x1, x2, e0, e1, e2, e3.keep (fun q hq hP => hk q (.inl hP.1) hq)⟩

theorem GT.append {Q : Nat → Prop} {B d : Nat} {WA W4 : World} {lv x0 x1 x2 : Value} {ts : List Tree} {T : Tree} {g4 cap4 : Nat} {cs : List Value}
    (hcl : ∀ (k : Nat) (T : Tree), ts[k]? = some T → ∃ x0 x1 x2, cs[k * 3]? = some x0 ∧ cs[k * 3 + 1]? = some x1 ∧ cs[k * 3 + 2]? = some x2 ∧ TAt (fun b => Q b ∧ lv.ownBlock ≠ some b) d WA x0 x1 x2 T) (hcn : cs.length = ts.length * 3)
    (hT : TAt (fun b => Q b ∧ lv.ownBlock ≠ some b) d WA x0 x1 x2 T)
    (hown4 : W4.ownsRow B 32 3 (.slice (some ⟨g4, 0, none⟩) (ts.length + 1) cap4) (ts.length + 1) (cs ++ [x0, x1, x2])) (hg4 : WA.grownBy W4 lv.ownBlock) (hat4 : lv.ownBlock = some g4 ∨ g4 = WA.heap.size) :
    GT Q B d W4 (.slice (some ⟨g4, 0, none⟩) (ts.length + 1) cap4) (ts ++ [T]) := by
  have up : ∀ {y0 y1 y2 : Value} {S : Tree}, TAt (fun b => Q b ∧ lv.ownBlock ≠ some b) d WA y0 y1 y2 S → TAt (fun b => Q b ∧ (Value.slice (some ⟨g4, 0, none⟩) (ts.length + 1) cap4).ownBlock ≠ some b) d W4 y0 y1 y2 S := fun h =>
    TAt.both (fun q hq hP => hg4.block q hq (fun e => hP.2 e.symm)) (fun q hq hP => ⟨hP.1, fun e => by
      have e' : g4 = q := by simpa [Value.ownBlock] using e
      rcases hat4 with hat | hat
      · exact hP.2 (by rw [hat, e'])
      · omega⟩) _ _ _ _ _ h
  refine ⟨cs ++ [x0, x1, x2], by simpa using hown4, fun k S hS => ?_⟩
  rcases Nat.lt_or_ge k ts.length with hk | hk
  · rw [List.getElem?_append_left hk] at hS
    obtain ⟨y0, y1, y2, e0, e1, e2, e3⟩ := hcl k S hS
    exact ⟨y0, y1, y2, by rw [List.getElem?_append_left (by omega)]; exact e0, by rw [List.getElem?_append_left (by omega)]; exact e1, by rw [List.getElem?_append_left (by omega)]; exact e2, up e3⟩
  · have hk2 : k = ts.length := by
      have := (List.getElem?_eq_some_iff.1 hS).1
      simp at this; omega
    subst hk2
    have hS' : S = T := by simpa using hS.symm
    subst hS'
    refine ⟨x0, x1, x2, ?_, ?_, ?_, up hT⟩
    · rw [List.getElem?_append_right (by omega)]; simp [hcn]
    · rw [List.getElem?_append_right (by omega), show ts.length * 3 + 1 - cs.length = 1 by omega]; rfl
    · rw [List.getElem?_append_right (by omega), show ts.length * 3 + 2 - cs.length = 2 by omega]; rfl

theorem GT.list {Q : Nat → Prop} {B d : Nat} {W : World} {v : Value} {ts : List Tree} {P : Nat → Prop} (h : GT Q B d W v ts) (hP : ∀ b, (Q b ∨ B ≤ b) → P b) : ListT P d W v ts := by
  obtain ⟨cs, h1, h2⟩ := h
  rcases h1.2 with ⟨hv, h0⟩ | ⟨g, cap, cur, hv, hb, _⟩
  · exact ⟨none, 0, by rw [hv, h0], fun k T hT => by have := (List.getElem?_eq_some_iff.1 hT).1; omega⟩
  · refine ⟨some ⟨g, 0, none⟩, cap, hv, fun k T hT => ?_⟩
    obtain ⟨x0, x1, x2, e0, e1, e2, e3⟩ := h2 k T hT
    have c : ∀ j u, cs[j]? = some u → W.cell? ⟨g, 0 + j, none⟩ = some u := fun j u hu => by
      have := h1.cells (g := g) (by rw [hv]; rfl) j u hu
      rwa [Addr.add_lit] at this
    exact ⟨g, 0, x0, x1, x2, rfl, hP g (.inr hb), c _ _ e0, by rw [Nat.add_assoc]; exact c _ _ e1, by rw [Nat.add_assoc]; exact c _ _ e2, e3.imp (fun q _ hq => hP q (.inl hq.1))⟩

set_option maxRecDepth 100000 in
set_option maxHeartbeats 1000000 in
theorem low_run (P : Nat → Prop) (tss : List (List Tree)) (n : Nat) (v0 : Value) (w : World) (hn : tss.length = n) (hn10 : n ≤ 10) (h3 : ∀ ts ∈ tss, ts.length ≤ 3) (hwf : ∀ ts ∈ tss, ∀ T ∈ ts, WF n 2 T) (h : LLAt P w v0 tss) :
    Calls Try.prog 40 #[v0] w fun e w' => ∃ v' ms, e = .returned (.tuple #[.agg #[v'], .int .i64 0]) ∧ MemsAt (fun b => P b ∨ w.heap.size ≤ b) 3 w' v' ms ∧ JoinL false n tss n ms ∧ Below w.heap.size w w' := by
  have hba := balloc (bref w) (.cells #[.slice none 0 0] 27)
  have HK := Lib.hid (show (w.alloc (.cells #[.slice none 0 0] 27)).heap[w.heap.size]? = some (.cells #[.slice none 0 0] 27 (0, 0)) from alloc_at rfl)
  have HSZ := Lib.hid (alloc_sz w (.cells #[.slice none 0 0] 27))
  have HJ := Lib.hid (joined_run (fun b => P b ∧ b < w.heap.size) tss false n v0 (w.alloc (.cells #[.slice none 0 0] 27)) hn hn10 h3 hwf (by
    obtain ⟨A, c, h1, h2⟩ := h
    refine ⟨A, c, h1, fun k ts ht => ?_⟩
    obtain ⟨b, off, u, e1, e2, e3, e4⟩ := h2 k ts ht
    exact ⟨b, off, u, e1, ⟨e2, cell_lt e3⟩, (hba.cell (cell_lt e3)).trans e3, (e4.both (Q := fun b => P b ∧ b < w.heap.size) (fun _ _ _ => rfl) (fun k hk hp => ⟨hp, hk⟩)).below hba⟩))
  have HB := Lib.hid hba
  obtain ⟨A, c, rfl, _⟩ := h
  clear hn hn10 h3 hwf hba
  go_enter Try.func40, Try.ntmps40
  go_upto_region 1 with fail
  generalize (w.alloc (.cells #[.slice none 0 0] 27)) = W1 at *
  generalize hg : w.heap.size = g at *
  have HG := Lib.hid hg
  clear hg
  go_wp2_with fail
  refine HJ.out.mono ?_
  rintro e Wc ⟨v', ms, rfl, h1, h2, hb⟩
  obtain ⟨Av, cv, rfl⟩ := h1.slice
  obtain ⟨nv, hnv⟩ : ∃ nv, ms.length = nv := ⟨_, rfl⟩
  rw [hnv] at h1 ⊢
  have hrc := (hb.block g (Array.getElem?_eq_some_iff.1 HK.out).1).trans HK.out
  have z0 : Wc.cell? ⟨g, 0, none⟩ = some (.slice none 0 0) := cell_of_row _ _ 0 _ _ (0, 0) hrc
  have zf : Wc.frozen? ⟨g, 0, none⟩ = false := by simp [World.frozen?, hrc]
  have hset : (Wc.setCell ⟨g, 0, none⟩ (.slice Av nv cv)).heap[g]? = some (.cells #[.slice Av nv cv] 27 (0, 0)) := by
    simp [World.setCell, Array.getElem?_modify, hrc]
  have Q0 := Lib.hid (show (Wc.setCell ⟨g, 0, none⟩ (.slice Av nv cv)).cell? ⟨g, 0, none⟩ = some (.slice Av nv cv) from cell_of_row _ _ 0 _ _ (0, 0) hset)
  have HF := Lib.hid (show MemsAt (fun b => P b ∨ w.heap.size ≤ b) 3 (Wc.setCell ⟨g, 0, none⟩ (.slice Av nv cv)) (.slice Av nv cv) ms ∧ JoinL false n tss n ms ∧ Below w.heap.size w (Wc.setCell ⟨g, 0, none⟩ (.slice Av nv cv)) from by
    have hG := HG.out
    have hS := HSZ.out
    have hB := HB.out
    refine ⟨h1.both (fun q hq hP => Below.heap_setCell _ _ _ q (by show q ≠ g; rcases hP with hP | hP <;> omega)) (fun q _ hP => ?_), h2, bset (bstep (by rw [hG]; exact hB) hb) (p := ⟨g, 0, none⟩) (by show w.heap.size ≤ g; omega) _⟩
    rcases hP with hP | hP
    · exact .inl hP.1
    · exact .inr (by omega))
  clear hset hrc hb h1 h2 hnv HJ
  go_wp2_with fail
  have q0 := Q0.out
  refine bodyPost_ret (v := .tuple #[.agg #[.slice Av nv cv], .int .i64 0]) ?_ rfl ⟨_, ms, rfl, HF.out⟩
  simp [results, Try.results40, go_sem, q0]

set_option maxRecDepth 100000 in
set_option maxHeartbeats 1000000 in
theorem high_run (P : Nat → Prop) (tss : List (List Tree)) (n : Nat) (v0 : Value) (w : World) (hn : tss.length = n) (hn10 : n ≤ 10) (h3 : ∀ ts ∈ tss, ts.length ≤ 3) (hwf : ∀ ts ∈ tss, ∀ T ∈ ts, WF n 2 T) (h : LLAt P w v0 tss) :
    Calls Try.prog 41 #[v0] w fun e w' => ∃ v' ms, e = .returned (.tuple #[.agg #[v'], .int .i64 0]) ∧ MemsAt (fun b => P b ∨ w.heap.size ≤ b) 3 w' v' ms ∧ JoinL true n tss n ms ∧ Below w.heap.size w w' := by
  have hba := balloc (bref w) (.cells #[.slice none 0 0] 27)
  have HK := Lib.hid (show (w.alloc (.cells #[.slice none 0 0] 27)).heap[w.heap.size]? = some (.cells #[.slice none 0 0] 27 (0, 0)) from alloc_at rfl)
  have HSZ := Lib.hid (alloc_sz w (.cells #[.slice none 0 0] 27))
  have HJ := Lib.hid (joined_run (fun b => P b ∧ b < w.heap.size) tss true n v0 (w.alloc (.cells #[.slice none 0 0] 27)) hn hn10 h3 hwf (by
    obtain ⟨A, c, h1, h2⟩ := h
    refine ⟨A, c, h1, fun k ts ht => ?_⟩
    obtain ⟨b, off, u, e1, e2, e3, e4⟩ := h2 k ts ht
    exact ⟨b, off, u, e1, ⟨e2, cell_lt e3⟩, (hba.cell (cell_lt e3)).trans e3, (e4.both (Q := fun b => P b ∧ b < w.heap.size) (fun _ _ _ => rfl) (fun k hk hp => ⟨hp, hk⟩)).below hba⟩))
  have HB := Lib.hid hba
  obtain ⟨A, c, rfl, _⟩ := h
  clear hn hn10 h3 hwf hba
  go_enter Try.func41, Try.ntmps41
  go_upto_region 1 with fail
  generalize (w.alloc (.cells #[.slice none 0 0] 27)) = W1 at *
  generalize hg : w.heap.size = g at *
  have HG := Lib.hid hg
  clear hg
  go_wp2_with fail
  refine HJ.out.mono ?_
  rintro e Wc ⟨v', ms, rfl, h1, h2, hb⟩
  obtain ⟨Av, cv, rfl⟩ := h1.slice
  obtain ⟨nv, hnv⟩ : ∃ nv, ms.length = nv := ⟨_, rfl⟩
  rw [hnv] at h1 ⊢
  have hrc := (hb.block g (Array.getElem?_eq_some_iff.1 HK.out).1).trans HK.out
  have z0 : Wc.cell? ⟨g, 0, none⟩ = some (.slice none 0 0) := cell_of_row _ _ 0 _ _ (0, 0) hrc
  have zf : Wc.frozen? ⟨g, 0, none⟩ = false := by simp [World.frozen?, hrc]
  have hset : (Wc.setCell ⟨g, 0, none⟩ (.slice Av nv cv)).heap[g]? = some (.cells #[.slice Av nv cv] 27 (0, 0)) := by
    simp [World.setCell, Array.getElem?_modify, hrc]
  have Q0 := Lib.hid (show (Wc.setCell ⟨g, 0, none⟩ (.slice Av nv cv)).cell? ⟨g, 0, none⟩ = some (.slice Av nv cv) from cell_of_row _ _ 0 _ _ (0, 0) hset)
  have HF := Lib.hid (show MemsAt (fun b => P b ∨ w.heap.size ≤ b) 3 (Wc.setCell ⟨g, 0, none⟩ (.slice Av nv cv)) (.slice Av nv cv) ms ∧ JoinL true n tss n ms ∧ Below w.heap.size w (Wc.setCell ⟨g, 0, none⟩ (.slice Av nv cv)) from by
    have hG := HG.out
    have hS := HSZ.out
    have hB := HB.out
    refine ⟨h1.both (fun q hq hP => Below.heap_setCell _ _ _ q (by show q ≠ g; rcases hP with hP | hP <;> omega)) (fun q _ hP => ?_), h2, bset (bstep (by rw [hG]; exact hB) hb) (p := ⟨g, 0, none⟩) (by show w.heap.size ≤ g; omega) _⟩
    rcases hP with hP | hP
    · exact .inl hP.1
    · exact .inr (by omega))
  clear hset hrc hb h1 h2 hnv HJ
  go_wp2_with fail
  have q0 := Q0.out
  refine bodyPost_ret (v := .tuple #[.agg #[.slice Av nv cv], .int .i64 0]) ?_ rfl ⟨_, ms, rfl, HF.out⟩
  simp [results, Try.results41, go_sem, q0]

end Go.Proofs.Ytnfdacfhhkahhaa
