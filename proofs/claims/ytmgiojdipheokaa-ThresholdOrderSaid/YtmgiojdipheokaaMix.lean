/- Trusts with their entries in another order: sizes, nodes and meaning. -/
import Derived.Test.YtmgiojdipheokaaMade
import Derived.Test.YtmgiojdipheokaaUsesMath
namespace Go.Proofs.Ytmgiojdipheokaa
set_option linter.unusedVariables false
open Go.RowKit

theorem len_le_of_nodup : ∀ (n : Nat) (l : List Nat), l.Nodup → (∀ x ∈ l, x < n) → l.length ≤ n
  | 0, l, _, h => by
    cases l with
    | nil => exact Nat.le_refl _
    | cons a l => exact absurd (h a List.mem_cons_self) (by omega)
  | n + 1, l, hd, h => by
    by_cases hn : n ∈ l
    · have h1 := len_le_of_nodup n (l.erase n) (hd.erase n) (fun x hx => by
        have h2 := (List.Nodup.mem_erase_iff hd).1 hx
        have h3 := h x h2.2
        omega)
      rw [List.length_erase_of_mem hn] at h1
      omega
    · have := len_le_of_nodup n l hd (fun x hx => by
        have h3 := h x hx
        have : x ≠ n := fun e => hn (e ▸ hx)
        omega)
      omega
theorem perm_range : ∀ (n : Nat) (l : List Nat), l.Nodup → (∀ x ∈ l, x < n) → l.length = n → l.Perm (List.range n)
  | 0, l, _, _, h => by rw [List.length_eq_zero_iff.1 h]; exact List.Perm.refl _
  | n + 1, l, hd, h, hl => by
    by_cases hn : n ∈ l
    · have h1 := perm_range n (l.erase n) (hd.erase n) (fun x hx => by
        have h2 := (List.Nodup.mem_erase_iff hd).1 hx
        have h3 := h x h2.2
        omega) (by rw [List.length_erase_of_mem hn]; omega)
      rw [List.range_succ]
      exact (List.perm_cons_erase hn).trans ((h1.cons n).trans (List.perm_append_singleton n _).symm)
    · have := len_le_of_nodup n l hd (fun x hx => by
        have h3 := h x hx
        have : x ≠ n := fun e => hn (e ▸ hx)
        omega)
      omega
theorem map_range {α : Type} (l : List α) (d : α) : (List.range l.length).map (fun k => l.getD k d) = l := by
  apply List.ext_getElem?
  intro k
  rw [List.getElem?_map]
  rcases Nat.lt_or_ge k l.length with h | h
  · rw [List.getElem?_range h]; simp [List.getD_eq_getElem?_getD, List.getElem?_eq_getElem h]
  · rw [List.getElem?_eq_none (by simpa using h), List.getElem?_eq_none h]; rfl
/-- An order of the places of a list, applied to it, is the list in another order. -/
theorem perm_order {α : Type} (l : List α) (d : α) (zs : List Int) (h1 : zs.length = l.length) (h2 : zs.Nodup) (h3 : ∀ x ∈ zs, 0 ≤ x ∧ x < (l.length : Int)) : (zs.map (fun z => l.getD z.toNat d)).Perm l := by
  have e : zs.map (fun z => l.getD z.toNat d) = (zs.map Int.toNat).map (fun k => l.getD k d) := by rw [List.map_map]; rfl
  have hp : (zs.map Int.toNat).Perm (List.range l.length) := by
    refine perm_range _ _ ?_ ?_ (by rw [List.length_map, h1])
    · rw [List.nodup_iff_pairwise_ne, List.pairwise_map]
      refine List.Pairwise.imp_of_mem ?_ (List.nodup_iff_pairwise_ne.1 h2)
      intro a b ha hb hne he
      have := h3 a ha
      have := h3 b hb
      omega
    · intro x hx
      obtain ⟨z, hz, rfl⟩ := List.mem_map.1 hx
      have := h3 z hz
      omega
  rw [e]
  have h := hp.map (fun k => l.getD k d)
  rwa [map_range] at h

/-- The second trust is the first one with its entries in another order. -/
def MixT : Nat → Tree → Tree → Prop
  | 0, _, _ => False
  | d + 1, .mk thr ns is, .mk thr' ns' is' => thr' = thr ∧ ns'.Perm ns ∧ ∃ js : List Tree, js.Perm is ∧ js.length = is'.length ∧ ∀ (k : Nat) (a b : Tree), js[k]? = some a → is'[k]? = some b → MixT d a b
theorem mix_map {β : Type} {d : Nat} {f : Tree → β} {js is' : List Tree} (hl : js.length = is'.length) (h : ∀ (k : Nat) (a b : Tree), js[k]? = some a → is'[k]? = some b → MixT d a b) (hf : ∀ a b, MixT d a b → a ∈ js → f b = f a) : is'.map f = js.map f := by
  apply List.ext_getElem?
  intro k
  rw [List.getElem?_map, List.getElem?_map]
  rcases Nat.lt_or_ge k js.length with h1 | h1
  · have e1 : js[k]? = some js[k] := List.getElem?_eq_getElem h1
    have e2 : is'[k]? = some (is'[k]'(by omega)) := List.getElem?_eq_getElem (by omega)
    rw [e1, e2]
    show some _ = some _
    rw [hf _ _ (h k _ _ e1 e2) (List.getElem_mem h1)]
  · rw [List.getElem?_eq_none h1, List.getElem?_eq_none (by omega)]
theorem sum_perm {l m : List Nat} (h : l.Perm m) : l.sum = m.sum := by
  induction h with
  | nil => rfl
  | cons x _ ih => simp [ih]
  | swap x y l => simp only [List.sum_cons]; omega
  | trans _ _ h1 h2 => exact h1.trans h2
theorem fold_perm {α β : Type} {f : β → α → β} (hc : ∀ b x y, f (f b x) y = f (f b y) x) {l m : List α} (h : l.Perm m) : ∀ b, l.foldl f b = m.foldl f b := by
  induction h with
  | nil => intro b; rfl
  | cons x _ ih => intro b; exact ih _
  | swap x y l => intro b; show List.foldl f (f (f b y) x) l = List.foldl f (f (f b x) y) l; rw [hc]
  | trans _ _ h1 h2 => intro b; exact (h1 b).trans (h2 b)
theorem cnt_perm {α : Type} (p : α → Bool) {l m : List α} (h : l.Perm m) : cnt p l = cnt p m := (h.filter p).length_eq

theorem mix_size : ∀ (d : Nat) (T U : Tree), MixT d T U → sizeT d U = sizeT d T
  | 0, _, _, h => h.elim
  | d + 1, .mk thr ns is, .mk thr' ns' is', ⟨_, h2, js, h3, h4, h5⟩ => by
    have e1 := mix_map (f := sizeT d) h4 h5 (fun a b hab _ => mix_size d a b hab)
    show ns'.length + is'.length + (is'.map (sizeT d)).sum = ns.length + is.length + (is.map (sizeT d)).sum
    rw [e1, sum_perm (h3.map (sizeT d)), h2.length_eq, ← h4, h3.length_eq]
theorem mix_depth : ∀ (d : Nat) (T U : Tree), MixT d T U → depthT d U = depthT d T
  | 0, _, _, h => h.elim
  | d + 1, .mk thr ns is, .mk thr' ns' is', ⟨_, h2, js, h3, h4, h5⟩ => by
    have e1 := mix_map (f := depthT d) h4 h5 (fun a b hab _ => mix_depth d a b hab)
    show ((is'.map (depthT d)).foldl max 0) + 1 = ((is.map (depthT d)).foldl max 0) + 1
    rw [e1, fold_perm (fun b x y => by omega) (h3.map (depthT d)) 0]
theorem bitS_comm (s : Nat) (x y : Int) : bitS (bitS s x) y = bitS (bitS s y) x := by
  unfold bitS
  split <;> split <;> simp only [Nat.or_assoc] <;> rw [Nat.or_comm (2 ^ x.toNat)]
theorem mix_uses : ∀ (d : Nat) (T U : Tree), MixT d T U → usesT d U = usesT d T
  | 0, _, _, h => h.elim
  | d + 1, .mk thr ns is, .mk thr' ns' is', ⟨_, h2, js, h3, h4, h5⟩ => by
    have e1 := mix_map (f := usesT d) h4 h5 (fun a b hab _ => mix_uses d a b hab)
    show (is'.map (usesT d)).foldl (· ||| ·) (nodesS ns') = (is.map (usesT d)).foldl (· ||| ·) (nodesS ns)
    have e2 : nodesS ns' = nodesS ns := fold_perm bitS_comm h2 0
    rw [e1, e2, fold_perm (fun b x y => by simp only [Nat.or_assoc]; rw [Nat.or_comm x]) (h3.map (usesT d))]
theorem mix_holds (p : Int → Bool) : ∀ (d : Nat) (T U : Tree), MixT d T U → holdsT d p U = holdsT d p T
  | 0, _, _, h => h.elim
  | d + 1, .mk thr ns is, .mk thr' ns' is', ⟨h1, h2, js, h3, h4, h5⟩ => by
    have e1 := mix_map (f := holdsT d p) h4 h5 (fun a b hab _ => mix_holds p d a b hab)
    have e2 : cnt (holdsT d p) is' = cnt (holdsT d p) is := by
      have a1 : ∀ l : List Tree, cnt (holdsT d p) l = cnt id (l.map (holdsT d p)) := fun l => by
        unfold cnt; rw [List.filter_map, List.length_map]; rfl
      rw [a1, a1, e1, cnt_perm id (h3.map (holdsT d p))]
    show decide (thr' ≤ ((cnt p ns' + cnt (holdsT d p) is' : Nat) : Int)) = decide (thr ≤ ((cnt p ns + cnt (holdsT d p) is : Nat) : Int))
    rw [e2, cnt_perm p h2, h1]
theorem mix_wf {n : Int} : ∀ (d : Nat) (T U : Tree), MixT d T U → WF n d T → WF n d U
  | 0, _, _, h, _ => h.elim
  | d + 1, .mk thr ns is, .mk thr' ns' is', ⟨h1, h2, js, h3, h4, h5⟩, ⟨w1, w2, w3, w4, w5, w6, w7⟩ => by
    have l1 := h2.length_eq
    have l2 := h3.length_eq
    refine ⟨by omega, by omega, by omega, by omega, fun x hx => w5 x (h2.mem_iff.1 hx), h2.nodup_iff.2 w6, fun U hU => ?_⟩
    obtain ⟨k, hk, rfl⟩ := List.getElem_of_mem hU
    have e2 : is'[k]? = some is'[k] := List.getElem?_eq_getElem hk
    have e1 : js[k]? = some (js[k]'(by omega)) := List.getElem?_eq_getElem (by omega)
    exact mix_wf d _ _ (h5 k _ _ e1 e2) (w7 _ (h3.mem_iff.1 (List.getElem_mem (by omega))))
theorem mix_sat {d : Nat} {T U : Tree} (h : MixT d T U) (s : Int) : satB d U s = satB d T s := by unfold satB; rw [mix_holds _ d T U h]
theorem mix_blk {d : Nat} {T U : Tree} (h : MixT d T U) (s : Int) : blkB d U s = blkB d T s := by unfold blkB; rw [mix_holds _ d T U h]
end Go.Proofs.Ytmgiojdipheokaa
