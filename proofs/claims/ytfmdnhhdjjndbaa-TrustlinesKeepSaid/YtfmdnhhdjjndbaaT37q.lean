/- Crediting and debiting lead back. -/
import Derived.Test.YtfmdnhhdjjndbaaT37p
namespace Go.Proofs.Ytfmdnhhdjjndbaa
set_option linter.unusedVariables false
set_option linter.unusedSimpArgs false
open Go.RowKit

theorem hasL_line {g : Led} {i : Int} {s : Nat} (hw : LedW g) (h : hasL i s g.lines = true) : 1 ≤ s ∧ issOf s ≠ i := by
  have h1 := hw.lines.each _ _ (getL_has h)
  have hk := getL_key h
  refine ⟨by have := h1.a1; rw [hk.2] at this; exact this, ?_⟩
  have := h1.iss
  rw [hk.1, hk.2] at this
  exact this
theorem okI_iff (x : Int) : okI x = true ↔ 0 ≤ x ∧ x ≤ 1000000000000 := ⟨okI_of, fun h => okI_yes h.1 h.2⟩
theorem giveE_iff {n : Int} {a : Acc} (hg : 0 ≤ a.bal ∧ a.bal ≤ 1000000000000) (h0 : 0 ≤ n) (h1 : n ≤ 1000000000000) : giveE n a = 0 ↔ n ≤ 1000000000000 - a.bal := by
  unfold giveE
  rw [okI_yes hg.1 hg.2, okI_yes h0 h1]
  by_cases h : a.bal + n ≤ 1000000000000
  · rw [okI_yes (by omega) h]
    simp
    omega
  · have : okI (a.bal + n) = false := by
      cases hq : okI (a.bal + n)
      · rfl
      · exact absurd (okI_of hq).2 h
    rw [this]
    simp
    omega
theorem takeE_iff {n : Int} {a : Acc} : takeE n a = 0 ↔ n ≤ a.bal := by
  unfold takeE
  by_cases h : a.bal < n
  · rw [if_pos h]; omega
  · rw [if_neg h]; omega
theorem crE_iff {n : Int} {l : Lin} : crE n l = 0 ↔ n ≤ l.lim - l.bal := by
  unfold crE
  by_cases h : l.lim - l.bal < n
  · rw [if_pos h]; omega
  · rw [if_neg h]; omega
theorem dbE_iff {n : Int} {l : Lin} : dbE n l = 0 ↔ n ≤ l.bal := by
  unfold dbE
  by_cases h : l.bal < n
  · rw [if_pos h]; omega
  · rw [if_neg h]; omega

theorem cr_iff {g : Led} {n i : Int} {s : Nat} (hw : LedW g) (hh : hasA i g.accs = true) (hn0 : 0 ≤ n) (hn1 : n ≤ 1000000000000) :
    chgE (giveE n) (crE n) g i s = 0 ↔ (n ≤ roomG g i s ∧ (hasL i s g.lines = true ∨ issOf s = i ∨ s = 0)) := by
  have hb := getA_bd hw.accs i
  rw [show roomG g i s = (if s = 0 then 1000000000000 - (getA i g.accs).bal else if issOf s = i then 1000000000000 else (getL i s g.lines).lim - (getL i s g.lines).bal) from by unfold roomG; rw [if_neg (by rw [hh]; simp)]]
  unfold chgE
  by_cases hs : s = 0
  · rw [if_pos hs, if_pos hs, giveE_iff hb hn0 hn1]
    exact ⟨fun h => ⟨h, .inr (.inr hs)⟩, fun h => h.1⟩
  · rw [if_neg hs, if_neg hs]
    by_cases hi : issOf s = i
    · rw [if_pos hi, if_pos hi]
      exact ⟨fun _ => ⟨hn1, .inr (.inl hi)⟩, fun _ => rfl⟩
    · rw [if_neg hi, if_neg hi]
      cases hl : hasL i s g.lines
      · rw [if_neg (by simp)]
        exact ⟨fun h => by omega, fun h => by rcases h.2 with h | h | h; cases h; exact absurd h hi; exact absurd h hs⟩
      · rw [if_pos rfl, crE_iff]
        exact ⟨fun h => ⟨h, .inl rfl⟩, fun h => h.1⟩
theorem db_iff {g : Led} {n i : Int} {s : Nat} (hw : LedW g) (hh : hasA i g.accs = true) (hn0 : 0 ≤ n) (hn1 : n ≤ 1000000000000) :
    chgE (takeE n) (dbE n) g i s = 0 ↔ (n ≤ heldG g i s ∧ (hasL i s g.lines = true ∨ issOf s = i ∨ s = 0)) := by
  have hb := getA_bd hw.accs i
  rw [show heldG g i s = (if s = 0 then (getA i g.accs).bal else if issOf s = i then 1000000000000 else (getL i s g.lines).bal) from by unfold heldG; rw [if_neg (by rw [hh]; simp)]]
  unfold chgE
  by_cases hs : s = 0
  · rw [if_pos hs, if_pos hs, takeE_iff]
    exact ⟨fun h => ⟨h, .inr (.inr hs)⟩, fun h => h.1⟩
  · rw [if_neg hs, if_neg hs]
    by_cases hi : issOf s = i
    · rw [if_pos hi, if_pos hi]
      exact ⟨fun _ => ⟨hn1, .inr (.inl hi)⟩, fun _ => rfl⟩
    · rw [if_neg hi, if_neg hi]
      cases hl : hasL i s g.lines
      · rw [if_neg (by simp)]
        exact ⟨fun h => by omega, fun h => by rcases h.2 with h | h | h; cases h; exact absurd h hi; exact absurd h hs⟩
      · rw [if_pos rfl, dbE_iff]
        exact ⟨fun h => ⟨h, .inl rfl⟩, fun h => h.1⟩

theorem cr_back {g : Led} {n i : Int} {s : Nat} (hw : LedW g) (hh : hasA i g.accs = true) (hn0 : 0 ≤ n) (hn1 : n ≤ 1000000000000) (h : chgE (giveE n) (crE n) g i s = 0) :
    LedW (chgG (giveE n) (giveU n) (crE n) (crU n) g i s) ∧ hasA i (chgG (giveE n) (giveU n) (crE n) (crU n) g i s).accs = true ∧ chgE (takeE n) (dbE n) (chgG (giveE n) (giveU n) (crE n) (crU n) g i s) i s = 0 ∧
      chgG (takeE n) (takeU n) (dbE n) (dbU n) (chgG (giveE n) (giveU n) (crE n) (crU n) g i s) i s = g ∧
      (hasL i s g.lines = true → issT s (chgG (giveE n) (giveU n) (crE n) (crU n) g i s).lines = issT s g.lines + n ∧ heldG (chgG (giveE n) (giveU n) (crE n) (crU n) g i s) i s = heldG g i s + n) := by
  by_cases hs : s = 0
  · rw [chgG_0 h hs]
    have ha := getA_has hh
    have hag := hw.accs.each _ _ ha
    have hE : giveE n (getA i g.accs) = 0 := by
      have h2 := h
      unfold chgE at h2
      rw [if_pos hs] at h2
      exact h2
    have hr := (giveE_iff ⟨hag.b0, hag.b1⟩ hn0 hn1).1 hE
    have hag2 : AccG (giveU n (getA i g.accs)) := ⟨hag.i0, hag.i1, by show 0 ≤ (getA i g.accs).bal + n; have := hag.b0; omega, by show (getA i g.accs).bal + n ≤ 1000000000000; omega, hag.s0, hag.s1⟩
    have hx := hw.accs_set ha hag2 rfl
    have hlt : findA i g.accs < g.accs.length := (List.getElem?_eq_some_iff.1 ha).1
    have hf : findA i (g.accs.set (findA i g.accs) (giveU n (getA i g.accs))) = findA i g.accs := findA_set (a' := giveU n (getA i g.accs)) ha rfl i
    have hga : getA i (g.accs.set (findA i g.accs) (giveU n (getA i g.accs))) = giveU n (getA i g.accs) := getA_at hf (List.getElem?_set_self hlt)
    have hE2 : chgE (takeE n) (dbE n) { g with accs := g.accs.set (findA i g.accs) (giveU n (getA i g.accs)) } i s = 0 := by
      unfold chgE
      rw [if_pos hs]
      show takeE n (getA i (g.accs.set (findA i g.accs) (giveU n (getA i g.accs)))) = 0
      rw [hga, takeE_iff]
      show n ≤ (getA i g.accs).bal + n
      have := hag.b0
      omega
    refine ⟨hx, ?_, hE2, ?_, fun hl => ?_⟩
    · show hasA i (g.accs.set _ _) = true
      rw [hasA_set (a' := giveU n (getA i g.accs)) ha rfl]
      exact hh
    · rw [chgG_0 hE2 hs]
      show ({ g with accs := (g.accs.set (findA i g.accs) (giveU n (getA i g.accs))).set (findA i (g.accs.set (findA i g.accs) (giveU n (getA i g.accs)))) (takeU n (getA i (g.accs.set (findA i g.accs) (giveU n (getA i g.accs))))) } : Led) = g
      rw [hf, hga, take_give, List.set_set, setA_self ha]
    · have := (hasL_line hw hl).1
      omega
  · by_cases hi : issOf s = i
    · rw [chgG_1 h hs hi]
      have hE2 : chgE (takeE n) (dbE n) g i s = 0 := by
        unfold chgE
        rw [if_neg hs, if_pos hi]
      exact ⟨hw, hh, hE2, chgG_1 hE2 hs hi, fun hl => absurd hi (hasL_line hw hl).2⟩
    · obtain ⟨hl, he, hG⟩ := chgG_2 (ea := giveE n) (ua := giveU n) (el := crE n) (ul := crU n) h hs hi
      rw [hG]
      have ha := getL_has hl
      have hk := getL_key hl
      have hag := hw.lines.each _ _ ha
      have hx := hw.lines_set ha (hag.cr hn0 he) rfl rfl
      have hlt : findL i s g.lines < g.lines.length := (List.getElem?_eq_some_iff.1 ha).1
      have hf : findL i s (g.lines.set (findL i s g.lines) (crU n (getL i s g.lines))) = findL i s g.lines := findL_set (a' := crU n (getL i s g.lines)) ha rfl rfl i s
      have hgl : getL i s (g.lines.set (findL i s g.lines) (crU n (getL i s g.lines))) = crU n (getL i s g.lines) := getL_at hf (List.getElem?_set_self hlt)
      have hl2 : hasL i s (g.lines.set (findL i s g.lines) (crU n (getL i s g.lines))) = true := by rw [hasL_set (a' := crU n (getL i s g.lines)) ha rfl rfl]; exact hl
      have hE2 : chgE (takeE n) (dbE n) { g with lines := g.lines.set (findL i s g.lines) (crU n (getL i s g.lines)) } i s = 0 := by
        unfold chgE
        rw [if_neg hs, if_neg hi, if_pos (show hasL i s (g.lines.set (findL i s g.lines) (crU n (getL i s g.lines))) = true from hl2)]
        show dbE n (getL i s (g.lines.set (findL i s g.lines) (crU n (getL i s g.lines)))) = 0
        rw [hgl, dbE_iff]
        show n ≤ (getL i s g.lines).bal + n
        have := hag.b0
        omega
      refine ⟨hx, hh, hE2, ?_, fun _ => ⟨?_, ?_⟩⟩
      · rw [(chgG_2 (ea := takeE n) (ua := takeU n) (el := dbE n) (ul := dbU n) hE2 hs hi).2.2]
        show ({ g with lines := (g.lines.set (findL i s g.lines) (crU n (getL i s g.lines))).set (findL i s (g.lines.set (findL i s g.lines) (crU n (getL i s g.lines)))) (dbU n (getL i s (g.lines.set (findL i s g.lines) (crU n (getL i s g.lines))))) } : Led) = g
        rw [hf, hgl, db_cr, List.set_set, setL_self ha]
      · show issT s (g.lines.set (findL i s g.lines) (crU n (getL i s g.lines))) = _
        rw [issT_set (a' := crU n (getL i s g.lines)) ha rfl, if_pos hk.2]
        show issT s g.lines + ((getL i s g.lines).bal + n - (getL i s g.lines).bal) = _
        omega
      · rw [heldG_3 (g := g) hh hs hi, heldG_3 (g := { g with lines := g.lines.set (findL i s g.lines) (crU n (getL i s g.lines)) }) hh hs hi]
        show (getL i s (g.lines.set (findL i s g.lines) (crU n (getL i s g.lines)))).bal = _
        rw [hgl]
        rfl
end Go.Proofs.Ytfmdnhhdjjndbaa
