/- The source's ledgers: what its world looks like. -/
import Derived.Test.YtfmdnhhdjjndbaaL38c
namespace Go.Proofs.Ytfmdnhhdjjndbaa
set_option linter.unusedVariables false
set_option linter.unusedSimpArgs false
open Go.RowKit

theorem SrcOk.keepLow {w w' : World} {sb : Nat} (h : SrcOk w sb) (hk : ∀ k, k ≤ sb → w'.heap[k]? = w.heap[k]?) : SrcOk w' sb := by
  have hl := h.lt
  obtain ⟨a, len, cap, at_, hb, h1, h2, h3, h4⟩ := h
  refine ⟨a, len, cap, at_, (hk _ (Nat.le_refl _)).trans hb, h1, h2, h3, fun i hi => ?_⟩
  obtain ⟨b, off, z, e1, e2, e3, e4⟩ := h4 i hi
  exact ⟨b, off, z, e1, e2, (World.cell?_of_block (a := ⟨b, off + i, none⟩) (hk _ (by show b ≤ sb; omega))).trans e3, e4⟩

def LObj (v0 va vl vo v4 v5 v6 : Value) : Obj := .cells #[v0, va, vl, vo, v4, v5, v6] 30 (0, 0)

/-- The world while a ledger is made: the source, the ledger's box gb, the result's box r0. -/
structure LW (w : World) (sb gb r0 : Nat) (o : Obj) (W : World) : Prop where
  src : SrcOk W sb
  gr : w.grownBy W (some sb)
  g : HasB gb o W
  r : HasB r0 (LObj (.int .i64 0) (.slice none 0 0) (.slice none 0 0) (.slice none 0 0) (.int .i64 0) (.int .i64 0) (.int .u64 0)) W
  s1 : sb < w.heap.size
  s2 : w.heap.size ≤ r0
  s3 : r0 < gb
section
variable {w : World} {sb gb r0 : Nat} {o : Obj} {W W' : World}

theorem LW.below (h : LW w sb gb r0 o W) (hb : Below W.heap.size W W') : LW w sb gb r0 o W' := ⟨h.src.below hb, grown_trans h.gr (grown_below hb), h.g.below hb, h.r.below hb, h.s1, h.s2, h.s3⟩

theorem LW.alloc (h : LW w sb gb r0 o W) (q : Obj) : LW w sb gb r0 o (W.alloc q) := h.below (balloc (bref _) _)

theorem LW.drew (h : LW w sb gb r0 o W) : LW w sb gb r0 o W.drew := h.below (bdrew (bref _))

theorem LW.grown (h : LW w sb gb r0 o W) (hs : SrcOk W' sb) (hg : W.grownBy W' (some sb)) : LW w sb gb r0 o W' :=
  ⟨hs, grown_trans h.gr hg, (hg.block gb h.g.lt (by have := h.s1; have := h.s2; have := h.s3; simp; omega)).trans h.g, (hg.block r0 h.r.lt (by have := h.s1; have := h.s2; simp; omega)).trans h.r, h.s1, h.s2, h.s3⟩

/-- An append onto a row above the box. -/
theorem LW.row (h : LW w sb gb r0 o W) {q : Option Nat} (hg : W.grownBy W' q) (hq : ∀ j, q = some j → gb < j) : LW w sb gb r0 o W' := by
  have hne : ∀ k, k ≤ gb → some k ≠ q := fun k hk e => by have := hq k e.symm; omega
  refine ⟨h.src.keepLow (fun k hk => hg.block k (by have := h.g.lt; have := h.s1; have := h.s2; have := h.s3; omega) (hne k (by have := h.s1; have := h.s2; have := h.s3; omega))), ?_, (hg.block gb h.g.lt (hne gb (Nat.le_refl _))).trans h.g, (hg.block r0 h.r.lt (hne r0 (by have := h.s3; omega))).trans h.r, h.s1, h.s2, h.s3⟩
  exact ⟨hg.os.trans h.gr.os, hg.tape.trans h.gr.tape, hg.output.trans h.gr.output, Nat.le_trans h.gr.size hg.size, fun k hk hn => (hg.block k (Nat.lt_of_lt_of_le hk h.gr.size) (hne k (by have := h.s2; have := h.s3; omega))).trans (h.gr.block k hk hn)⟩

/-- A store into the box. -/
theorem LW.store (h : LW w sb gb r0 o W) {o' : Obj} (k : Nat) (u : Value) (ho : HasB gb o' (W.setCell ⟨gb, k, none⟩ u)) : LW w sb gb r0 o' (W.setCell ⟨gb, k, none⟩ u) :=
  ⟨h.src.setCell (by have := h.s1; have := h.s2; have := h.s3; show sb < gb; omega) _, grown_set h.gr (by have := h.s2; have := h.s3; show w.heap.size ≤ gb; omega) _, ho, h.r.far (by have := h.s3; show gb ≠ r0; omega) _, h.s1, h.s2, h.s3⟩
end

theorem own_grown {w w' : World} {B sb : Nat} {e : TypeId} {n m : Nat} {v : Value} {xs : List Value} (h : w.ownsRow B e n v m xs) (hg : w.grownBy w' (some sb)) (hsb : sb < B) : w'.ownsRow B e n v m xs := by
  refine ⟨h.1, ?_⟩
  rcases h.2 with h2 | ⟨gg, cap, cur, e1, e2, e3, e4⟩
  · exact .inl h2
  · exact .inr ⟨gg, cap, cur, e1, e2, (hg.block gg (Array.getElem?_eq_some_iff.1 e3).1 (by simp; omega)).trans e3, e4⟩

theorem set_obj {b k : Nat} {W : World} {xs : Array Value} {t : TypeId} (h : HasB b (.cells xs t (0, 0)) W) (u : Value) : HasB b (.cells (xs.setIfInBounds k u) t (0, 0)) (W.setCell ⟨b, k, none⟩ u) := by
  have h1 : W.heap[b]? = some (.cells xs t (0, 0)) := h
  show (W.setCell ⟨b, k, none⟩ u).heap[b]? = _
  simp [World.setCell, Array.getElem?_modify, h1]

/-- The world while the lines are made. -/
structure LM (w : World) (sb gb r0 B2 : Nat) (o : Obj) (va vl : Value) (L : List Acc) (M : List Lin) (W : World) : Prop where
  lw : LW w sb gb r0 o W
  acc : AccAt (fun b => gb < b ∧ b < B2) W va L
  own : W.ownsRow B2 51 5 vl M.length (flatS encL M)
  b2 : gb < B2
  bz : B2 ≤ W.heap.size
section
variable {w : World} {sb gb r0 B2 : Nat} {o : Obj} {va vl : Value} {L : List Acc} {M : List Lin} {W W' : World}

theorem LM.below (h : LM w sb gb r0 B2 o va vl L M W) (hb : Below W.heap.size W W') : LM w sb gb r0 B2 o va vl L M W' := ⟨h.lw.below hb, h.acc.below hb, own_below h.own hb, h.b2, Nat.le_trans h.bz hb.size⟩

theorem LM.alloc (h : LM w sb gb r0 B2 o va vl L M W) (q : Obj) : LM w sb gb r0 B2 o va vl L M (W.alloc q) := h.below (balloc (bref _) _)

theorem LM.drew (h : LM w sb gb r0 B2 o va vl L M W) : LM w sb gb r0 B2 o va vl L M W.drew := h.below (bdrew (bref _))

theorem LM.grown (h : LM w sb gb r0 B2 o va vl L M W) (hs : SrcOk W' sb) (hg : W.grownBy W' (some sb)) : LM w sb gb r0 B2 o va vl L M W' := by
  have e1 := h.lw.s1
  have e2 := h.lw.s2
  have e3 := h.lw.s3
  have e4 := h.b2
  exact ⟨h.lw.grown hs hg, h.acc.both hg.size (fun k hk hp => hg.block k hk (by simp; omega)) (fun _ _ h => h), own_grown h.own hg (by omega), h.b2, Nat.le_trans h.bz hg.size⟩

theorem LM.row (h : LM w sb gb r0 B2 o va vl L M W) {v' : Value} {M' : List Lin} (hg : W.grownBy W' vl.ownBlock) (hq : ∀ j, vl.ownBlock = some j → B2 ≤ j) (ho : W'.ownsRow B2 51 5 v' M'.length (flatS encL M')) : LM w sb gb r0 B2 o va v' L M' W' := by
  have e4 := h.b2
  exact ⟨h.lw.row hg (fun j hj => by have := hq j hj; omega), h.acc.both hg.size (fun k hk hp => hg.block k hk (fun e => by have := hq k e.symm; omega)) (fun _ _ h => h), ho, h.b2, Nat.le_trans h.bz hg.size⟩

theorem LM.store (h : LM w sb gb r0 B2 o va vl L M W) {o' : Obj} (k : Nat) (u : Value) (ho : HasB gb o' (W.setCell ⟨gb, k, none⟩ u)) : LM w sb gb r0 B2 o' va vl L M (W.setCell ⟨gb, k, none⟩ u) :=
  ⟨h.lw.store k u ho, h.acc.both (by simp [World.setCell]) (fun j hj hp => Below.heap_setCell _ _ _ _ (by show j ≠ gb; omega)) (fun _ _ h => h), ownsRow_setCell_below h.own (a := ⟨gb, k, none⟩) h.b2 u, h.b2, by have := h.bz; simpa [World.setCell] using this⟩
end

theorem LW.high {w : World} {sb gb r0 : Nat} {o : Obj} {W : World} (h : LW w sb gb r0 o W) {p : Addr} (hp : gb < p.block) (u : Value) : LW w sb gb r0 o (W.setCell p u) := by
  have e1 := h.s1
  have e2 := h.s2
  have e3 := h.s3
  exact ⟨h.src.setCell (by omega) _, grown_set h.gr (by omega) _, h.g.far (by omega) _, h.r.far (by omega) _, h.s1, h.s2, h.s3⟩

def GObj (g : Led) (va vl vo : Value) : Obj := LObj (.int .i64 g.number) va vl vo (.int .i64 g.next) (.int .i64 g.fees) (.int .u64 g.link)

def ZObj : Obj := LObj (.int .i64 0) (.slice none 0 0) (.slice none 0 0) (.slice none 0 0) (.int .i64 0) (.int .i64 0) (.int .u64 0)

/-- The accounts of the source: numbered from 1, small. -/
structure AccN (L : List Acc) : Prop where
  id : ∀ (k : Nat) (a : Acc), L[k]? = some a → a.id = (k : Int) + 1
  b0 : ∀ a ∈ L, 0 ≤ a.bal ∧ a.bal ≤ 1000
  s0 : ∀ a ∈ L, 0 ≤ a.seq ∧ a.seq ≤ 2

theorem AccN.snoc {L : List Acc} (h : AccN L) {a : Acc} (hi : a.id = (L.length : Int) + 1) (hb : 0 ≤ a.bal ∧ a.bal ≤ 1000) (hs : 0 ≤ a.seq ∧ a.seq ≤ 2) : AccN (L ++ [a]) := by
  refine ⟨fun k x hx => ?_, fun x hx => ?_, fun x hx => ?_⟩
  · rcases Nat.lt_or_ge k L.length with h1 | h1
    · rw [List.getElem?_append_left h1] at hx; exact h.id k x hx
    · rw [List.getElem?_append_right h1] at hx
      rcases Nat.eq_zero_or_pos (k - L.length) with h2 | h2
      · rw [h2] at hx; cases hx
        rw [hi]
        omega
      · rw [List.getElem?_eq_none (by simp; omega)] at hx; cases hx
  · rcases List.mem_append.1 hx with h1 | h1
    · exact h.b0 x h1
    · rw [List.mem_singleton] at h1; subst h1; exact hb
  · rcases List.mem_append.1 hx with h1 | h1
    · exact h.s0 x h1
    · rw [List.mem_singleton] at h1; subst h1; exact hs

theorem AccN.ok {L : List Acc} (h : AccN L) (hl : L.length ≤ 20) : AccsOk L := by
  refine ⟨hl, fun k a ha => ?_, fun k a b ha hb => by rw [h.id k a ha, h.id (k + 1) b hb]; omega⟩
  have hm := List.mem_of_getElem? ha
  have hk := (List.getElem?_eq_some_iff.1 ha).1
  obtain ⟨b0, b1⟩ := h.b0 a hm
  obtain ⟨s0, s1⟩ := h.s0 a hm
  have := h.id k a ha
  exact ⟨by omega, by omega, b0, by omega, s0, by omega⟩

theorem AccN.has {L : List Acc} (h : AccN L) {i : Int} (h0 : 1 ≤ i) (h1 : i ≤ L.length) : hasA i L = true := by
  have hk : (i - 1).toNat < L.length := by omega
  have ha := List.getElem?_eq_getElem hk
  have : findA i L = (i - 1).toNat := findA_at ha (by rw [h.id _ _ ha]; omega) (fun j b hj hb e => by rw [h.id _ _ hb] at e; omega)
  unfold hasA
  rw [this]
  exact decide_eq_true hk

/-- The world while the offers are made. -/
structure LK (w : World) (sb gb r0 n Z : Nat) (g : Led) (va vl vo : Value) (W : World) : Prop where
  lw : LW w sb gb r0 (GObj g va vl vo) W
  at_ : LedAt (fun b => gb < b ∧ b < Z) W va vl vo g
  ok : LedOk g
  acc : AccN g.accs
  len : g.accs.length = n
  nil : g.offers = [] → vo = .slice none 0 0
  z : Z ≤ W.heap.size
section
variable {w : World} {sb gb r0 n Z : Nat} {g : Led} {va vl vo : Value} {W W' : World}

theorem LK.below (h : LK w sb gb r0 n Z g va vl vo W) (hb : Below W.heap.size W W') : LK w sb gb r0 n Z g va vl vo W' := ⟨h.lw.below hb, h.at_.below hb, h.ok, h.acc, h.len, h.nil, Nat.le_trans h.z hb.size⟩

theorem LK.grown (h : LK w sb gb r0 n Z g va vl vo W) (hs : SrcOk W' sb) (hg : W.grownBy W' (some sb)) : LK w sb gb r0 n Z g va vl vo W' := by
  have e1 := h.lw.s1
  have e2 := h.lw.s2
  have e3 := h.lw.s3
  exact ⟨h.lw.grown hs hg, h.at_.both hg.size (fun k hk hp => hg.block k hk (by simp; omega)) (fun _ _ h => h), h.ok, h.acc, h.len, h.nil, Nat.le_trans h.z hg.size⟩

theorem LK.high (h : LK w sb gb r0 n Z g va vl vo W) {p : Addr} (hp : gb < p.block) (hz : Z ≤ p.block) (u : Value) : LK w sb gb r0 n Z g va vl vo (W.setCell p u) :=
  ⟨h.lw.high hp u, h.at_.both (by simp [World.setCell]) (fun k hk hq => Below.heap_setCell _ _ _ _ (by omega)) (fun _ _ h => h), h.ok, h.acc, h.len, h.nil, by have := h.z; simpa [World.setCell] using this⟩

theorem LK.now (h : LK w sb gb r0 n Z g va vl vo W) : LK w sb gb r0 n W.heap.size g va vl vo W := ⟨h.lw, h.at_.both (Nat.le_refl _) (fun _ _ _ => rfl) (fun k hk hp => ⟨hp.1, hk⟩), h.ok, h.acc, h.len, h.nil, Nat.le_refl _⟩
end

def RowC (l : List Int) (m : Nat) (gb : Nat) (W : World) (v : Value) : Prop := ∃ q, v = .slice (some ⟨q, 0, none⟩) m m ∧ gb < q ∧ q < W.heap.size ∧ ∀ j, j < m → W.cell? ⟨q, j, none⟩ = some (.int .i64 (l.getD j 0))

def IntV (a b : Int) (v : Value) : Prop := ∃ r : Int, v = .int .i64 r ∧ a ≤ r ∧ r ≤ b

def AstV (v : Value) : Prop := ∃ a : Nat, v = .agg #[.string (codeOf a), .int .i64 (issOf a)] ∧ a ≤ 2

def BoxV (gb Z : Nat) (W : World) (v : Value) : Prop := ∃ q, v = .pointer (some ⟨q, 0, none⟩) ∧ gb < q ∧ Z ≤ q ∧ HasB q ZObj W

/-- What stands in the slots of the phase. -/
def PhR (n gb Z : Nat) (j : Nat) (W : World) (v : Value) : Prop :=
  match j with
  | 3 => IntV 1 n v
  | 5 => AstV v
  | 7 => AstV v
  | 9 => RowC [1, 10, 90] 3 gb W v
  | 10 => IntV 1 90 v
  | 12 => RowC [1, 2, 3, 7] 4 gb W v
  | 13 => IntV 1 7 v
  | 15 => RowC [1, 2, 3, 5] 4 gb W v
  | 16 => IntV 1 5 v
  | _ => BoxV gb Z W v

theorem RowC.grown {l : List Int} {m gb sb : Nat} {W W' : World} {v : Value} (h : RowC l m gb W v) (hsb : sb < gb) (hg : W.grownBy W' (some sb)) : RowC l m gb W' v := by
  obtain ⟨q, h1, h2, h3, h4⟩ := h
  exact ⟨q, h1, h2, Nat.lt_of_lt_of_le h3 hg.size, fun j hj => (World.cell?_of_block (a := ⟨q, j, none⟩) (hg.block q h3 (by simp; omega))).trans (h4 j hj)⟩

theorem PhR.grown {n gb Z sb j : Nat} {W W' : World} {v : Value} (h : PhR n gb Z j W v) (hsb : sb < gb) (hg : W.grownBy W' (some sb)) : PhR n gb Z j W' v := by
  unfold PhR at *
  split at h
  · exact h
  · exact h
  · exact h
  · exact RowC.grown h hsb hg
  · exact h
  · exact RowC.grown h hsb hg
  · exact h
  · exact RowC.grown h hsb hg
  · exact h
  · obtain ⟨q, h1, h2, h3, h4⟩ := h
    exact ⟨q, h1, h2, h3, (hg.block q h4.lt (by simp; omega)).trans h4⟩

/-- The lines while they are made: in order, up to asset q of account i. -/
structure LinN (accs : List Acc) (L : List Lin) (i q : Nat) : Prop where
  ok : LinesOk accs L
  last : ∀ l ∈ L, l.acc < (i : Int) ∨ (l.acc = (i : Int) ∧ 1 ≤ q ∧ (q = 1 → l.ast = 2))
  len : L.length ≤ 2 * i + q

theorem LinN.next {accs : List Acc} {L : List Lin} {i q : Nat} (h : LinN accs L i q) (hq : q ≤ 1) : LinN accs L i (q + 1) :=
  ⟨h.ok, fun l hl => by
    rcases h.last l hl with h1 | ⟨h1, h2, h3⟩
    · exact .inl h1
    · exact .inr ⟨h1, by omega, fun e => by omega⟩, by have := h.len; omega⟩

theorem LinN.over {accs : List Acc} {L : List Lin} {i : Nat} (h : LinN accs L i 2) : LinN accs L (i + 1) 0 :=
  ⟨h.ok, fun l hl => by
    rcases h.last l hl with h1 | ⟨h1, _⟩
    · left; omega
    · left; omega, by have := h.len; omega⟩

theorem LinN.snoc {accs : List Acc} {L : List Lin} {i q : Nat} (h : LinN accs L i q) (hq : q ≤ 1) (hi : i ≤ 5) {l : Lin} (hg : LinG accs l) (hacc : l.acc = (i : Int)) (hast : l.ast = if q = 0 then 2 else 1) : LinN accs (L ++ [l]) i (q + 1) := by
  have hlen := h.len
  refine ⟨⟨by simp; omega, fun k a ha => ?_, fun k a b ha hb => ?_⟩, fun x hx => ?_, by simp; omega⟩
  · rcases Nat.lt_or_ge k L.length with h1 | h1
    · rw [List.getElem?_append_left h1] at ha; exact h.ok.each k a ha
    · rw [List.getElem?_append_right h1] at ha
      rcases Nat.eq_zero_or_pos (k - L.length) with h2 | h2
      · rw [h2] at ha; cases ha; exact hg
      · rw [List.getElem?_eq_none (by simp; omega)] at ha; cases ha
  · have hk : k < L.length := by
      have := (List.getElem?_eq_some_iff.1 hb).1
      simp at this
      omega
    rw [List.getElem?_append_left hk] at ha
    rcases Nat.lt_or_ge (k + 1) L.length with h1 | h1
    · rw [List.getElem?_append_left h1] at hb; exact h.ok.asc k a b ha hb
    · rw [List.getElem?_append_right h1, show k + 1 - L.length = 0 by omega] at hb
      cases hb
      unfold befL
      rw [hacc]
      rcases h.last a (List.mem_of_getElem? ha) with h2 | ⟨h2, h3, h4⟩
      · rw [decide_eq_true h2]; rfl
      · have hq1 : q = 1 := by omega
        rw [h4 hq1, hast, if_neg (by omega), h2]
        simp [lessR, rkS]
  · rcases List.mem_append.1 hx with h1 | h1
    · rcases h.last x h1 with h2 | ⟨h2, h3, h4⟩
      · exact .inl h2
      · exact .inr ⟨h2, by omega, fun e => by omega⟩
    · rw [List.mem_singleton] at h1
      subst h1
      exact .inr ⟨hacc, by omega, fun e => by rw [hast, if_pos (by omega)]⟩

end Go.Proofs.Ytfmdnhhdjjndbaa
