/- Lines of a ledger, one of them changed. -/
import Derived.Test.YtfmdnhhdjjndbaaT37f
import Derived.Test.YtfmdnhhdjjndbaaT37e
import Derived.Test.YtfmdnhhdjjndbaaA36c
namespace Go.Proofs.Ytfmdnhhdjjndbaa
set_option linter.unusedVariables false
set_option linter.unusedSimpArgs false
open Go.RowKit

theorem setL_key {L : List Lin} {F : Nat} {a a' : Lin} (ha : L[F]? = some a) (h1 : a'.acc = a.acc) (h2 : a'.ast = a.ast) : ∀ (k : Nat) (x : Lin), (L.set F a')[k]? = some x → ∃ y, L[k]? = some y ∧ y.acc = x.acc ∧ y.ast = x.ast ∧ (x = y ∨ x = a') := by
  have hF : F < L.length := (List.getElem?_eq_some_iff.1 ha).1
  intro k x hx
  by_cases e : F = k
  · subst e
    rw [List.getElem?_set_self hF] at hx
    cases hx
    exact ⟨a, ha, h1.symm, h2.symm, .inr rfl⟩
  · rw [List.getElem?_set_ne e] at hx
    exact ⟨x, hx, rfl, rfl, .inl rfl⟩

theorem LinesOk.set {accs : List Acc} {L : List Lin} (h : LinesOk accs L) {F : Nat} {a a' : Lin} (ha : L[F]? = some a) (hg : LinG accs a') (h1 : a'.acc = a.acc) (h2 : a'.ast = a.ast) : LinesOk accs (L.set F a') := by
  refine ⟨by rw [List.length_set]; exact h.len, fun k x hx => ?_, fun k x y hx hy => ?_⟩
  · obtain ⟨y, hy, _, _, e⟩ := setL_key ha h1 h2 k x hx
    rcases e with rfl | rfl
    · exact h.each k _ hy
    · exact hg
  · obtain ⟨x', hx', e1, e2, _⟩ := setL_key ha h1 h2 k x hx
    obtain ⟨y', hy', e3, e4, _⟩ := setL_key ha h1 h2 (k + 1) y hy
    have := h.asc k x' y' hx' hy'
    unfold befL at *
    rw [← e1, ← e2, ← e3, ← e4]
    exact this

theorem findL_set {L : List Lin} {F : Nat} {a a' : Lin} (ha : L[F]? = some a) (h1 : a'.acc = a.acc) (h2 : a'.ast = a.ast) (i : Int) (s : Nat) : findL i s (L.set F a') = findL i s L := by
  have hF : F < L.length := (List.getElem?_eq_some_iff.1 ha).1
  have hm : (L.set F a').map (fun x => (x.acc, x.ast)) = L.map (fun x => (x.acc, x.ast)) := by
    apply List.ext_getElem?
    intro k
    rw [List.getElem?_map, List.getElem?_map]
    by_cases e : F = k
    · subst e
      rw [List.getElem?_set_self hF, ha]
      simp [h1, h2]
    · rw [List.getElem?_set_ne e]
  have key : ∀ M : List Lin, findL i s M = (M.map (fun x => (x.acc, x.ast))).findIdx (fun q => decide (q.1 = i ∧ q.2 = s)) := by
    intro M
    unfold findL
    rw [List.findIdx_map]
    rfl
  rw [key, key, hm]

theorem hasL_set {L : List Lin} {F : Nat} {a a' : Lin} (ha : L[F]? = some a) (h1 : a'.acc = a.acc) (h2 : a'.ast = a.ast) (i : Int) (s : Nat) : hasL i s (L.set F a') = hasL i s L := by
  unfold hasL
  rw [findL_set ha h1 h2, List.length_set]

theorem hasA_set {L : List Acc} {F : Nat} {a a' : Acc} (ha : L[F]? = some a) (hi : a'.id = a.id) (i : Int) : hasA i (L.set F a') = hasA i L := by
  unfold hasA
  rw [findA_set ha hi, List.length_set]

theorem getA_at {L : List Acc} {i : Int} {k : Nat} {a : Acc} (h : findA i L = k) (ha : L[k]? = some a) : getA i L = a := by
  unfold getA
  rw [h, ha]
  rfl

theorem getL_at {L : List Lin} {i : Int} {s k : Nat} {a : Lin} (h : findL i s L = k) (ha : L[k]? = some a) : getL i s L = a := by
  unfold getL
  rw [h, ha]
  rfl

theorem hasL_at {L : List Lin} {i : Int} {s k : Nat} {a : Lin} (h : findL i s L = k) (ha : L[k]? = some a) : hasL i s L = true := by
  unfold hasL
  rw [h]
  exact decide_eq_true (List.getElem?_eq_some_iff.1 ha).1

theorem getL_no {L : List Lin} {i : Int} {s : Nat} (h : hasL i s L = false) : getL i s L = ⟨0, 0, 0, 0⟩ := by
  unfold getL
  rw [List.getElem?_eq_none (Nat.le_of_not_lt (of_decide_eq_false h))]
  rfl

theorem setL_self {L : List Lin} {F : Nat} {a : Lin} (h : L[F]? = some a) : L.set F a = L := by
  have hF : F < L.length := (List.getElem?_eq_some_iff.1 h).1
  apply List.ext_getElem?
  intro k
  by_cases e : F = k
  · subst e
    rw [List.getElem?_set_self hF, h]
  · rw [List.getElem?_set_ne e]

theorem setA_self {L : List Acc} {F : Nat} {a : Acc} (h : L[F]? = some a) : L.set F a = L := by
  have hF : F < L.length := (List.getElem?_eq_some_iff.1 h).1
  apply List.ext_getElem?
  intro k
  by_cases e : F = k
  · subst e
    rw [List.getElem?_set_self hF, h]
  · rw [List.getElem?_set_ne e]

theorem issT_set {s : Nat} {L : List Lin} {F : Nat} {a a' : Lin} (h : L[F]? = some a) (h2 : a'.ast = a.ast) : issT s (L.set F a') = issT s L + (if a.ast = s then a'.bal - a.bal else 0) := by
  have hF : F < L.length := (List.getElem?_eq_some_iff.1 h).1
  have he : L[F] = a := (List.getElem?_eq_some_iff.1 h).2
  have h1 : L = L.take F ++ a :: L.drop (F + 1) := by
    rw [← he]
    simp
  have h3 : L.set F a' = L.take F ++ a' :: L.drop (F + 1) := by
    rw [List.set_eq_take_append_cons_drop, if_pos hF]
  rw [h3, issT_app]
  have h4 : issT s L = issT s (L.take F) + issT s (a :: L.drop (F + 1)) := by
    rw [← issT_app, ← h1]
  rw [h4]
  show _ + ((if a'.ast = s then a'.bal else 0) + issT s (L.drop (F + 1))) = _ + ((if a.ast = s then a.bal else 0) + issT s (L.drop (F + 1))) + _
  rw [h2]
  split <;> omega

theorem LinesOk.accs_set {accs : List Acc} {L : List Lin} (h : LinesOk accs L) {F : Nat} {a a' : Acc} (ha : accs[F]? = some a) (hi : a'.id = a.id) : LinesOk (accs.set F a') L :=
  ⟨h.len, fun k x hx => (by
    obtain ⟨q0, q1, q2, q3, q4, q5, q6, q7⟩ := h.each k x hx
    exact ⟨by rw [hasA_set ha hi]; exact q0, q1, q2, q3, q4, q5, q6, q7⟩), h.asc⟩

/-- What crediting and debiting a line by n do. -/
def crE (n : Int) (l : Lin) : Int := if l.lim - l.bal < n then 70 else 0

def crU (n : Int) (l : Lin) : Lin := ⟨l.acc, l.ast, l.bal + n, l.lim⟩

def dbE (n : Int) (l : Lin) : Int := if l.bal < n then 66 else 0

def dbU (n : Int) (l : Lin) : Lin := ⟨l.acc, l.ast, l.bal - n, l.lim⟩

def zeroG : Led := ⟨0, [], [], [], 0, 0, 0⟩

theorem db_cr (n : Int) (l : Lin) : dbU n (crU n l) = l := by
  cases l with
  | mk x y z u =>
    show Lin.mk x y (z + n - n) u = Lin.mk x y z u
    rw [Int.add_sub_cancel]

theorem take_give (n : Int) (a : Acc) : takeU n (giveU n a) = a := by
  cases a with
  | mk x y z =>
    show Acc.mk x (y + n - n) z = Acc.mk x y z
    rw [Int.add_sub_cancel]

theorem LedW.accs_set {g : Led} (h : LedW g) {F : Nat} {a a' : Acc} (ha : g.accs[F]? = some a) (hg : AccG a') (hi : a'.id = a.id) : LedW { g with accs := g.accs.set F a' } :=
  ⟨h.accs.set ha hg hi, h.lines.accs_set ha hi, h.olen⟩

theorem LedW.lines_set {g : Led} (h : LedW g) {F : Nat} {a a' : Lin} (ha : g.lines[F]? = some a) (hg : LinG g.accs a') (h1 : a'.acc = a.acc) (h2 : a'.ast = a.ast) : LedW { g with lines := g.lines.set F a' } :=
  ⟨h.accs, h.lines.set ha hg h1 h2, h.olen⟩

theorem zeroG_w : LedW zeroG := ⟨AccsOk.nil, LinesOk.nil _, by show ([] : List Off).length ≤ 40; simp⟩

theorem zeroG_at (P : Nat → Prop) (w : World) : LedAt P w (.slice none 0 0) (.slice none 0 0) (.slice none 0 0) zeroG := ⟨RowAt.nil, RowAt.nil, RowAt.nil⟩

theorem LinG.cr {accs : List Acc} {l : Lin} (h : LinG accs l) {n : Int} (h0 : 0 ≤ n) (h1 : crE n l = 0) : LinG accs (crU n l) := by
  have : n ≤ l.lim - l.bal := by
    unfold crE at h1
    split at h1
    · cases h1
    · omega
  obtain ⟨q0, q1, q2, q3, q4, q5, q6, q7⟩ := h
  exact ⟨q0, q1, q2, q3, q4, q5, by show 0 ≤ l.bal + n; omega, by show l.bal + n ≤ l.lim; omega⟩

theorem LinG.db {accs : List Acc} {l : Lin} (h : LinG accs l) {n : Int} (h0 : 0 ≤ n) (h1 : dbE n l = 0) : LinG accs (dbU n l) := by
  have : n ≤ l.bal := by
    unfold dbE at h1
    split at h1
    · cases h1
    · omega
  obtain ⟨q0, q1, q2, q3, q4, q5, q6, q7⟩ := h
  exact ⟨q0, q1, q2, q3, q4, q5, by show 0 ≤ l.bal - n; omega, by show l.bal - n ≤ l.lim; omega⟩

end Go.Proofs.Ytfmdnhhdjjndbaa
