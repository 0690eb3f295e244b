/- What crediting and debiting leave. -/
import Derived.Test.YtfmdnhhdjjndbaaT37o
import Derived.Test.YtfmdnhhdjjndbaaSrcL
namespace Go.Proofs.Ytfmdnhhdjjndbaa
set_option linter.unusedVariables false
set_option linter.unusedSimpArgs false
open Go.RowKit

theorem chgG_0 {ea : Acc → Int} {ua : Acc → Acc} {el : Lin → Int} {ul : Lin → Lin} {g : Led} {i : Int} {s : Nat} (h : chgE ea el g i s = 0) (hs : s = 0) : chgG ea ua el ul g i s = { g with accs := g.accs.set (findA i g.accs) (ua (getA i g.accs)) } := by
  unfold chgG
  rw [if_neg (by omega), if_pos hs]
theorem chgG_1 {ea : Acc → Int} {ua : Acc → Acc} {el : Lin → Int} {ul : Lin → Lin} {g : Led} {i : Int} {s : Nat} (h : chgE ea el g i s = 0) (hs : s ≠ 0) (hi : issOf s = i) : chgG ea ua el ul g i s = g := by
  unfold chgG
  rw [if_neg (by omega), if_neg hs, if_pos hi]
theorem chgG_2 {ea : Acc → Int} {ua : Acc → Acc} {el : Lin → Int} {ul : Lin → Lin} {g : Led} {i : Int} {s : Nat} (h : chgE ea el g i s = 0) (hs : s ≠ 0) (hi : issOf s ≠ i) :
    hasL i s g.lines = true ∧ el (getL i s g.lines) = 0 ∧ chgG ea ua el ul g i s = { g with lines := g.lines.set (findL i s g.lines) (ul (getL i s g.lines)) } := by
  have h2 := h
  unfold chgE at h2
  rw [if_neg hs, if_neg hi] at h2
  refine ⟨?_, ?_, ?_⟩
  · cases hl : hasL i s g.lines
    · rw [hl] at h2; simp at h2
    · rfl
  · cases hl : hasL i s g.lines
    · rw [hl] at h2; simp at h2
    · rw [hl] at h2; simpa using h2
  · unfold chgG
    rw [if_neg (by omega), if_neg hs, if_neg hi]
theorem chgG_bad {ea : Acc → Int} {ua : Acc → Acc} {el : Lin → Int} {ul : Lin → Lin} {g : Led} {i : Int} {s : Nat} (h : chgE ea el g i s ≠ 0) : chgG ea ua el ul g i s = zeroG := by
  unfold chgG
  rw [if_pos h]
theorem getL_key {i : Int} {s : Nat} {L : List Lin} (h : hasL i s L = true) : (getL i s L).acc = i ∧ (getL i s L).ast = s := by
  obtain ⟨a, ha, h1⟩ := findL_spec (of_decide_eq_true h)
  have : getL i s L = a := getL_at rfl ha
  rw [this]
  exact h1

/-- What a debit leaves of a ledger, lines alone. -/
theorem db_ok {g : Led} {n i : Int} {s : Nat} (hw : LedW g) (hs0 : 1 ≤ s) (hn : 0 ≤ n) (h : chgE (takeE n) (dbE n) g i s = 0) :
    LedW (chgG (takeE n) (takeU n) (dbE n) (dbU n) g i s) ∧ (chgG (takeE n) (takeU n) (dbE n) (dbU n) g i s).accs = g.accs ∧ issT s (chgG (takeE n) (takeU n) (dbE n) (dbU n) g i s).lines = issT s g.lines - (if issOf s = i then 0 else n) := by
  by_cases hi : issOf s = i
  · rw [chgG_1 h (by omega) hi, if_pos hi]
    exact ⟨hw, rfl, by omega⟩
  · obtain ⟨hl, he, hG⟩ := chgG_2 (ea := takeE n) (ua := takeU n) (el := dbE n) (ul := dbU n) h (by omega) hi
    rw [hG, if_neg hi]
    have ha := getL_has hl
    have hk := getL_key hl
    refine ⟨hw.lines_set ha ((hw.lines.each _ _ ha).db hn he) rfl rfl, rfl, ?_⟩
    show issT s (g.lines.set (findL i s g.lines) (dbU n (getL i s g.lines))) = _
    rw [issT_set (a' := dbU n (getL i s g.lines)) ha rfl, if_pos hk.2]
    show issT s g.lines + ((getL i s g.lines).bal - n - (getL i s g.lines).bal) = _
    omega
theorem cr_ok {g : Led} {n i : Int} {s : Nat} (hw : LedW g) (hs0 : 1 ≤ s) (hn : 0 ≤ n) (h : chgE (giveE n) (crE n) g i s = 0) :
    LedW (chgG (giveE n) (giveU n) (crE n) (crU n) g i s) ∧ (chgG (giveE n) (giveU n) (crE n) (crU n) g i s).accs = g.accs ∧ issT s (chgG (giveE n) (giveU n) (crE n) (crU n) g i s).lines = issT s g.lines + (if issOf s = i then 0 else n) := by
  by_cases hi : issOf s = i
  · rw [chgG_1 h (by omega) hi, if_pos hi]
    exact ⟨hw, rfl, by omega⟩
  · obtain ⟨hl, he, hG⟩ := chgG_2 (ea := giveE n) (ua := giveU n) (el := crE n) (ul := crU n) h (by omega) hi
    rw [hG, if_neg hi]
    have ha := getL_has hl
    have hk := getL_key hl
    refine ⟨hw.lines_set ha ((hw.lines.each _ _ ha).cr hn he) rfl rfl, rfl, ?_⟩
    show issT s (g.lines.set (findL i s g.lines) (crU n (getL i s g.lines))) = _
    rw [issT_set (a' := crU n (getL i s g.lines)) ha rfl, if_pos hk.2]
    show issT s g.lines + ((getL i s g.lines).bal + n - (getL i s g.lines).bal) = _
    omega
theorem cr_bad {g : Led} {n i : Int} {s : Nat} (hs0 : 1 ≤ s) (h : chgE (giveE n) (crE n) g i s ≠ 0) : chgE (giveE n) (crE n) g i s = 70 := by
  unfold chgE at *
  rw [if_neg (by omega)] at h ⊢
  split at h
  · exact absurd rfl h
  · rename_i hi
    rw [if_neg hi]
    split at h
    · rename_i hl
      rw [if_pos hl]
      unfold crE at *
      split at h
      · rename_i hq; rw [if_pos hq]
      · exact absurd rfl h
    · rename_i hl
      rw [if_neg hl]
theorem issT_all {accs : List Acc} {s : Nat} {L : List Lin} (h : LinesOk accs L) : 0 ≤ issT s L ∧ issT s L ≤ 60000000000000 := by
  have h1 := issT_bd (s := s) (fun k a ha => ⟨(h.each k a ha).b0, by have h2 := h.each k a ha; have := h2.b1; have := h2.m1; omega⟩) L.length
  rw [List.take_length] at h1
  have h2 := h.len
  refine ⟨h1.1, Int.le_trans h1.2 ?_⟩
  have : ((L.length : Nat) : Int) ≤ 60 := by omega
  omega
theorem issued_w (P : Nat → Prop) (g : Led) (s : Nat) (v : Value) (w : World) (hs : s ≤ 2) (hw : LedW g) (h : LinAt P w v g.lines) :
    Calls Try.prog 29 #[v, valS s] w fun e w' => e = .returned (.int .i64 (issT s g.lines)) ∧ Below w.heap.size w w' :=
  issued_run P g.lines s v w hs (fun k a ha => ⟨(hw.lines.each k a ha).a2, (hw.lines.each k a ha).b0, by have h1 := (hw.lines.each k a ha).b1; have h2 := (hw.lines.each k a ha).m1; omega⟩) hw.lines.len h
/-- A ledger in memory apart from the source. -/
theorem LedAt.grown {sb : Nat} {w w' : World} {va vl vo : Value} {g : Led} (h : LedAt (fun b => sb < b) w va vl vo g) (hg : w.grownBy w' (some sb)) : LedAt (fun b => sb < b) w' va vl vo g :=
  h.both hg.size (fun k hk hp => hg.block k hk (fun e => by
    have e2 := Option.some.inj e
    have hp2 : sb < k := hp
    omega)) (fun _ _ h => h)
theorem bgrow {w a b : World} {sb : Nat} (h : Below w.heap.size w a) (hg : a.grownBy b (some sb)) (hs : w.heap.size ≤ sb) : Below w.heap.size w b := Below.grown h hg h.size (fun j hj => by cases hj; exact hs)
end Go.Proofs.Ytfmdnhhdjjndbaa
