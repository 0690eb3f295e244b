/- A drawn region in which calls and allocations come up in many orders: one step for each operation, by an invariant, in the place of one goal for each order. -/
import Derived.Test.YtfmdnhhdjjndbaaHeldF
namespace Go.Proofs.Ytfmdnhhdjjndbaa
set_option linter.unusedVariables false
set_option linter.unusedSimpArgs false
open Go.RowKit

section
variable {P : Program} {ops : Array Oper} {Q : Exit → Act → World → Prop} {md : Region.Mode}

def foldSet (s : Nat → Bool) : List Nat → Array Bool → Array Bool
  | [], l => l
  | t :: ts, l => foldSet s ts (if s t then l.setIfInBounds t true else l)

/-- Every way in which the elements may be set, each only behind those that it waits for. -/
def allSub (p : Array Bool → Bool) (deps : Nat → List Nat) : List Nat → List Nat → Array Bool → Bool
  | _, [], l => p l
  | pre, t :: ts, l => (deps t).all (fun j => pre.contains j) && allSub p deps (t :: pre) ts l && (if (deps t).all (fun j => l.getD j false) = true then allSub p deps (t :: pre) ts (l.setIfInBounds t true) else true)

theorem set_comm (l : Array Bool) (i j : Nat) : (l.setIfInBounds i true).setIfInBounds j true = (l.setIfInBounds j true).setIfInBounds i true := by
  by_cases h : i = j
  · rw [h]
  · exact Array.setIfInBounds_comm _ _ h

theorem set_idem (l : Array Bool) (i : Nat) : (l.setIfInBounds i true).setIfInBounds i true = l.setIfInBounds i true := by simp

theorem fold_out (s : Nat → Bool) (i : Nat) : ∀ (ts : List Nat) (l : Array Bool), (foldSet s ts l).setIfInBounds i true = foldSet s ts (l.setIfInBounds i true)
  | [], l => rfl
  | t :: ts, l => by
    unfold foldSet
    rw [fold_out s i ts]
    split
    · rw [set_comm]
    · rfl

def sput (s : Nat → Bool) (i : Nat) : Nat → Bool := fun j => s j || j == i

theorem fold_same (s : Nat → Bool) (i : Nat) : ∀ (ts : List Nat) (l : Array Bool), foldSet (sput s i) ts (l.setIfInBounds i true) = foldSet s ts (l.setIfInBounds i true)
  | [], l => rfl
  | t :: ts, l => by
    unfold foldSet
    by_cases h : t = i
    · subst h
      have h1 : sput s t t = true := by simp [sput]
      rw [if_pos h1, set_idem]
      have h2 : (if s t = true then l.setIfInBounds t true else l.setIfInBounds t true) = l.setIfInBounds t true := by split <;> rfl
      rw [h2]
      exact fold_same s t ts l
    · have h1 : sput s i t = s t := by simp [sput, h]
      rw [h1]
      by_cases hs : s t = true
      · simp only [hs, if_true]
        rw [set_comm l i t]
        exact fold_same s i ts _
      · simp only [hs]
        exact fold_same s i ts _

theorem fold_put (s : Nat → Bool) (i : Nat) : ∀ (ts : List Nat) (l : Array Bool), i ∈ ts → foldSet (sput s i) ts l = (foldSet s ts l).setIfInBounds i true
  | [], l, h => by cases h
  | t :: ts, l, h => by
    rw [fold_out]
    unfold foldSet
    by_cases e : t = i
    · subst e
      have h1 : sput s t t = true := by simp [sput]
      rw [if_pos h1, set_idem, fold_same]
      split <;> rfl
    · have h1 : sput s i t = s t := by simp [sput, e]
      rw [h1]
      have hm : i ∈ ts := by
        rcases List.mem_cons.1 h with h | h
        · exact absurd h.symm e
        · exact h
      rw [fold_put s i ts _ hm, fold_out]
      by_cases hs : s t = true
      · simp only [hs, if_true]
        rw [set_comm]
      · simp [hs]

theorem fold_not (s : Nat → Bool) (j : Nat) (d : Bool) (hj : s j = false) : ∀ (ts : List Nat) (l : Array Bool), (foldSet s ts l).getD j d = l.getD j d
  | [], l => rfl
  | t :: ts, l => by
    unfold foldSet
    rw [fold_not s j d hj ts]
    by_cases hs : s t = true
    · rw [if_pos hs]
      exact getD_set_ne d (fun e => by rw [e, hj] at hs; cases hs)
    · rw [if_neg hs]

theorem set_getT (l : Array Bool) (i : Nat) : (l.setIfInBounds i true).getD i true = true := by
  rcases Nat.lt_or_ge i l.size with h | h
  · simp [h]
  · simp [Array.getElem?_eq_none h]

theorem fold_true (s : Nat → Bool) (i : Nat) (hi : s i = true) : ∀ (ts : List Nat) (l : Array Bool), (i ∈ ts ∨ l.getD i true = true) → (foldSet s ts l).getD i true = true
  | [], l, h => by
    rcases h with h | h
    · cases h
    · exact h
  | t :: ts, l, h => by
    unfold foldSet
    refine fold_true s i hi ts _ ?_
    by_cases e : t = i
    · subst e
      rw [if_pos hi]
      exact .inr (set_getT _ _)
    · rcases h with h | h
      · rcases List.mem_cons.1 h with h | h
        · exact absurd h.symm e
        · exact .inl h
      · right
        split
        · rw [getD_set_ne true e]; exact h
        · exact h

theorem fold_all (s : Nat → Bool) : ∀ (ts : List Nat) (l : Array Bool), (∀ t ∈ ts, s t = true) → foldSet s ts l = foldSet (fun _ => true) ts l
  | [], l, _ => rfl
  | t :: ts, l, h => by
    unfold foldSet
    rw [if_pos (h t List.mem_cons_self), if_pos rfl]
    exact fold_all s ts _ (fun t ht => h t (List.mem_cons_of_mem _ ht))

theorem fold_none (s : Nat → Bool) : ∀ (ts : List Nat) (l : Array Bool), (∀ t ∈ ts, s t = false) → foldSet s ts l = l
  | [], l, _ => rfl
  | t :: ts, l, h => by
    unfold foldSet
    rw [if_neg (by rw [h t List.mem_cons_self]; simp)]
    exact fold_none s ts _ (fun t ht => h t (List.mem_cons_of_mem _ ht))

theorem allSub_spec {p : Array Bool → Bool} {deps : Nat → List Nat} (s : Nat → Bool) : ∀ (ts pre : List Nat) (l : Array Bool), allSub p deps pre ts l = true → (∀ j ∈ pre, s j = true → l.getD j false = true) → (∀ t ∈ ts, t < l.size) → (∀ t ∈ ts, s t = true → ∀ j ∈ deps t, s j = true) → p (foldSet s ts l) = true
  | [], pre, l, h, _, _, _ => h
  | t :: ts, pre, l, h, hp, hz, hc => by
    unfold allSub at h
    rw [Bool.and_eq_true, Bool.and_eq_true] at h
    obtain ⟨⟨h1, h2⟩, h3⟩ := h
    unfold foldSet
    by_cases hs : s t = true
    · rw [if_pos hs]
      have hd : (deps t).all (fun j => l.getD j false) = true := List.all_eq_true.2 (fun j hj => hp j (List.contains_iff_mem.1 (List.all_eq_true.1 h1 j hj)) (hc t List.mem_cons_self hs j hj))
      rw [if_pos hd] at h3
      refine allSub_spec s ts (t :: pre) _ h3 (fun j hj hsj => ?_) (fun u hu => by rw [Array.size_setIfInBounds]; exact hz u (List.mem_cons_of_mem _ hu)) (fun u hu => hc u (List.mem_cons_of_mem _ hu))
      rcases List.mem_cons.1 hj with rfl | hj
      · have := hz j List.mem_cons_self
        simp [this]
      · exact getD_set_true (hp j hj hsj)
    · rw [if_neg hs]
      refine allSub_spec s ts (t :: pre) _ h2 (fun j hj hsj => ?_) (fun u hu => hz u (List.mem_cons_of_mem _ hu)) (fun u hu => hc u (List.mem_cons_of_mem _ hu))
      rcases List.mem_cons.1 hj with rfl | hj
      · exact absurd hsj hs
      · exact hp j hj hsj

/-- Does i wait for j? -/
def depB (md : Region.Mode) (ops : Array Oper) (i j : Nat) : Bool :=
  match ops[i]? with
  | none => false
  | some o => o.after.any fun e => Region.binds md e && e.on == j

/-- What is checked by evaluation: while one of T is to come, one of T comes next, and no other. -/
def phaseB (md : Region.Mode) (ops : Array Oper) (T : List Nat) (l0 : Array Bool) : Bool :=
  T.all (fun t => !l0.getD t true) && allSub (fun l => T.all (fun t => l.getD t true) || (!(Region.ready md ops l).isEmpty && (Region.ready md ops l).all (fun i => T.contains i))) (fun t => T.filter (depB md ops t)) [] T l0

def upd (f : Nat → Value) (i : Nat) (v : Value) : Nat → Value := fun j => if j = i then v else f j

theorem filter_less {T : List Nat} {s : Nat → Bool} {i n : Nat} (hnd : T.Nodup) (hi : i ∈ T) (hs : s i = false) (hn : (T.filter (fun t => !s t)).length = n + 1) : (T.filter (fun t => !sput s i t)).length = n := by
  have h1 : T.filter (fun t => !sput s i t) = (T.filter (fun t => !s t)).filter (fun t => !(t == i)) := by
    rw [List.filter_filter]
    congr 1
    funext t
    simp [sput, Bool.and_comm]
  have h2 : i ∈ T.filter (fun t => !s t) := List.mem_filter.2 ⟨hi, by rw [hs]; rfl⟩
  have h3 : (T.filter (fun t => !s t)).Nodup := List.nodup_iff_pairwise_ne.2 ((List.nodup_iff_pairwise_ne.1 hnd).filter _)
  have h4 : (T.filter (fun t => !s t)).filter (fun t => !(t == i)) = (T.filter (fun t => !s t)).erase i := by
    rw [List.Nodup.erase_eq_filter h3]
    congr 1
  rw [h1, h4, List.length_erase_of_mem h2, hn]
  omega

theorem phase {T : List Nat} {A : (Nat → Value) → Act} {R : Nat → World → Value → Prop} {G : World → Prop} {Le : World → World → Prop} (l0 : Array Bool) (fuel : Nat) (hnd : T.Nodup) (hchk : phaseB md ops T l0 = true)
    (hmono : ∀ j ∈ T, ∀ w w' v, R j w v → Le w w' → R j w' v)
    (hstep : ∀ i ∈ T, ∀ f w, G w → (∀ j, depB md ops i j = true → j ∈ T → R j w (f j)) → wpOp P ops Q i (fun a' w' => ∃ v, a' = A (upd f i v) ∧ G w' ∧ R i w' v ∧ Le w w') (A f) w)
    (hend : ∀ f w, G w → (∀ j ∈ T, R j w (f j)) → wpAny P md ops Q fuel (foldSet (fun _ => true) T l0) (A f) w)
    (f : Nat → Value) (w : World) (hG : G w) : wpAny P md ops Q (fuel + T.length) l0 (A f) w := by
  unfold phaseB at hchk
  rw [Bool.and_eq_true] at hchk
  obtain ⟨hT0, hsub⟩ := hchk
  have hT : ∀ t ∈ T, l0.getD t true = false := fun t ht => by simpa using List.all_eq_true.1 hT0 t ht
  have key : ∀ (n : Nat) (s : Nat → Bool) (f : Nat → Value) (w : World), (T.filter (fun t => !s t)).length = n → (∀ t ∈ T, s t = true → ∀ j ∈ T.filter (depB md ops t), s j = true) → G w → (∀ j ∈ T, s j = true → R j w (f j)) → wpAny P md ops Q (fuel + n) (foldSet s T l0) (A f) w := by
    intro n
    induction n with
    | zero =>
      intro s f w hn hcl hG hR
      have hall : ∀ t ∈ T, s t = true := fun t ht => by
        have h1 := List.eq_nil_of_length_eq_zero hn
        cases hs : s t
        · have : t ∈ T.filter (fun t => !s t) := List.mem_filter.2 ⟨ht, by rw [hs]; rfl⟩
          rw [h1] at this; cases this
        · rfl
      rw [fold_all s T l0 hall]
      exact hend f w hG (fun j hj => hR j hj (hall j hj))
    | succ n ih =>
      intro s f w hn hcl hG hR
      have hc := allSub_spec s T [] l0 hsub (fun j hj => by cases hj) (fun t ht => by
        have := hT t ht
        rcases Nat.lt_or_ge t l0.size with h' | h'
        · exact h'
        · simp [Array.getElem?_eq_none h'] at this) hcl
      rw [Bool.or_eq_true] at hc
      have hnot : ¬ (T.all (fun t => (foldSet s T l0).getD t true) = true) := by
        intro h
        have h1 : T.filter (fun t => !s t) = [] := by
          rw [List.filter_eq_nil_iff]
          intro t ht hs
          have h2 := List.all_eq_true.1 h t ht
          rw [fold_not s t true (by simpa using hs), hT t ht] at h2
          cases h2
        rw [h1] at hn; cases hn
      have hc2 := hc.resolve_left hnot
      rw [Bool.and_eq_true] at hc2
      refine ⟨fun h0 => ?_, fun i hi => ?_⟩
      · rw [h0] at hc2; simp at hc2
      · have hiT : i ∈ T := List.contains_iff_mem.1 (List.all_eq_true.1 hc2.2 i hi)
        obtain ⟨hun, o, ho, hall⟩ := mem_ready.1 hi
        have hsi : s i = false := by
          rw [← Bool.not_eq_true]
          intro h
          rw [fold_true s i h T l0 (.inl hiT)] at hun
          cases hun
        have hdep : ∀ j, depB md ops i j = true → j ∈ T → s j = true := fun j hj hjT => by
          unfold depB at hj
          rw [ho] at hj
          obtain ⟨e, he, hb⟩ := Array.any_eq_true'.1 hj
          rw [Bool.and_eq_true] at hb
          have h3 := hall e he hb.1
          rw [beq_iff_eq.1 hb.2] at h3
          cases hs : s j
          · rw [fold_not s j false hs] at h3
            have h4 := hT j hjT
            rcases Nat.lt_or_ge j l0.size with h' | h'
            · simp [h'] at h3 h4; rw [h3] at h4; cases h4
            · simp [Array.getElem?_eq_none h'] at h3
          · rfl
        refine wpOp_mono (fun a' w' h => ?_) (hstep i hiT f w hG (fun j hj hjT => hR j hjT (hdep j hj hjT)))
        · obtain ⟨v, rfl, hG', hRi, hle⟩ := h
          rw [← fold_put s i T l0 hiT]
          refine ih (sput s i) _ w' (filter_less hnd hiT hsi hn) (fun t ht hst j hj => ?_) hG' (fun j hj hs => ?_)
          · obtain ⟨hj1, hj2⟩ := List.mem_filter.1 hj
            have h5 : s j = true := by
              by_cases e : t = i
              · subst e; exact hdep j hj2 hj1
              · exact hcl t ht (by simpa [sput, e] using hst) j hj
            simp [sput, h5]
          unfold upd
          by_cases e : j = i
          · rw [if_pos e, e]; exact hRi
          · rw [if_neg e]
            exact hmono j hj w w' _ (hR j hj (by simpa [sput, e] using hs)) hle
  have h0 := key T.length (fun _ => false) f w (by simp) (fun t ht h => by cases h) hG (fun j hj h => by cases h)
  rwa [fold_none _ T l0 (fun _ _ => rfl)] at h0

theorem phaseF {S : World → Prop} {F : List Nat} {T : List Nat} {A : (Nat → Value) → Act} {R : Nat → World → Value → Prop} {G : World → Prop} {Le : World → World → Prop} (l0 : Array Bool) (fuel : Nat) (hnd : T.Nodup) (hchk : phaseB md ops T l0 = true)
    (hmono : ∀ j ∈ T, ∀ w w' v, R j w v → Le w w' → R j w' v)
    (hstep : ∀ i ∈ T, ∀ f w, G w → (∀ j, depB md ops i j = true → j ∈ T → R j w (f j)) → wpOp P ops Q i (fun a' w' => ∃ v, a' = A (upd f i v) ∧ G w' ∧ R i w' v ∧ Le w w') (A f) w)
    (hGS : ∀ w, G w → S w)
    (hend : ∀ f w, G w → (∀ j ∈ T, R j w (f j)) → wpAnyF P md ops Q S F fuel (foldSet (fun _ => true) T l0) (A f) w)
    (f : Nat → Value) (w : World) (hG : G w) : wpAnyF P md ops Q S F (fuel + T.length) l0 (A f) w := by
  unfold phaseB at hchk
  rw [Bool.and_eq_true] at hchk
  obtain ⟨hT0, hsub⟩ := hchk
  have hT : ∀ t ∈ T, l0.getD t true = false := fun t ht => by simpa using List.all_eq_true.1 hT0 t ht
  have key : ∀ (n : Nat) (s : Nat → Bool) (f : Nat → Value) (w : World), (T.filter (fun t => !s t)).length = n → (∀ t ∈ T, s t = true → ∀ j ∈ T.filter (depB md ops t), s j = true) → G w → (∀ j ∈ T, s j = true → R j w (f j)) → wpAnyF P md ops Q S F (fuel + n) (foldSet s T l0) (A f) w := by
    intro n
    induction n with
    | zero =>
      intro s f w hn hcl hG hR
      have hall : ∀ t ∈ T, s t = true := fun t ht => by
        have h1 := List.eq_nil_of_length_eq_zero hn
        cases hs : s t
        · have : t ∈ T.filter (fun t => !s t) := List.mem_filter.2 ⟨ht, by rw [hs]; rfl⟩
          rw [h1] at this; cases this
        · rfl
      rw [fold_all s T l0 hall]
      exact hend f w hG (fun j hj => hR j hj (hall j hj))
    | succ n ih =>
      intro s f w hn hcl hG hR
      have hc := allSub_spec s T [] l0 hsub (fun j hj => by cases hj) (fun t ht => by
        have := hT t ht
        rcases Nat.lt_or_ge t l0.size with h' | h'
        · exact h'
        · simp [Array.getElem?_eq_none h'] at this) hcl
      rw [Bool.or_eq_true] at hc
      have hnot : ¬ (T.all (fun t => (foldSet s T l0).getD t true) = true) := by
        intro h
        have h1 : T.filter (fun t => !s t) = [] := by
          rw [List.filter_eq_nil_iff]
          intro t ht hs
          have h2 := List.all_eq_true.1 h t ht
          rw [fold_not s t true (by simpa using hs), hT t ht] at h2
          cases h2
        rw [h1] at hn; cases hn
      have hc2 := hc.resolve_left hnot
      rw [Bool.and_eq_true] at hc2
      refine ⟨fun h0 => ?_, fun i hi => ?_⟩
      · rw [h0] at hc2; simp at hc2
      · have hiT : i ∈ T := List.contains_iff_mem.1 (List.all_eq_true.1 hc2.2 i hi)
        obtain ⟨hun, o, ho, hall⟩ := mem_ready.1 hi
        have hsi : s i = false := by
          rw [← Bool.not_eq_true]
          intro h
          rw [fold_true s i h T l0 (.inl hiT)] at hun
          cases hun
        have hdep : ∀ j, depB md ops i j = true → j ∈ T → s j = true := fun j hj hjT => by
          unfold depB at hj
          rw [ho] at hj
          obtain ⟨e, he, hb⟩ := Array.any_eq_true'.1 hj
          rw [Bool.and_eq_true] at hb
          have h3 := hall e he hb.1
          rw [beq_iff_eq.1 hb.2] at h3
          cases hs : s j
          · rw [fold_not s j false hs] at h3
            have h4 := hT j hjT
            rcases Nat.lt_or_ge j l0.size with h' | h'
            · simp [h'] at h3 h4; rw [h3] at h4; cases h4
            · simp [Array.getElem?_eq_none h'] at h3
          · rfl
        refine wpOp_mono (fun a' w' h => ?_) (hstep i hiT f w hG (fun j hj hjT => hR j hjT (hdep j hj hjT)))
        · obtain ⟨v, rfl, hG', hRi, hle⟩ := h
          refine ⟨.inr (fun _ => hGS w' hG'), ?_⟩
          rw [← fold_put s i T l0 hiT]
          refine ih (sput s i) _ w' (filter_less hnd hiT hsi hn) (fun t ht hst j hj => ?_) hG' (fun j hj hs => ?_)
          · obtain ⟨hj1, hj2⟩ := List.mem_filter.1 hj
            have h5 : s j = true := by
              by_cases e : t = i
              · subst e; exact hdep j hj2 hj1
              · exact hcl t ht (by simpa [sput, e] using hst) j hj
            simp [sput, h5]
          unfold upd
          by_cases e : j = i
          · rw [if_pos e, e]; exact hRi
          · rw [if_neg e]
            exact hmono j hj w w' _ (hR j hj (by simpa [sput, e] using hs)) hle
  have h0 := key T.length (fun _ => false) f w (by simp) (fun t ht h => by cases h) hG (fun j hj h => by cases h)
  rwa [fold_none _ T l0 (fun _ _ => rfl)] at h0

/-- The same check where another operation, y, may come up as soon as only x is left. -/
def phaseBX (md : Region.Mode) (ops : Array Oper) (T : List Nat) (x y : Nat) (l0 : Array Bool) : Bool :=
  T.all (fun t => !l0.getD t true) && allSub (fun l => T.all (fun t => l.getD t true) || (!(Region.ready md ops l).isEmpty && (Region.ready md ops l).all (fun i => T.contains i || (i == y && T.all (fun t => t == x || l.getD t true))))) (fun t => T.filter (depB md ops t)) [] T l0

theorem phaseX {x y : Nat} {S : World → Prop} {F : List Nat} {T : List Nat} {A : (Nat → Value) → Act} {R : Nat → World → Value → Prop} {G : World → Prop} {Le : World → World → Prop} (l0 : Array Bool) (fuel : Nat) (hnd : T.Nodup) (hchk : phaseBX md ops T x y l0 = true)
    (hmono : ∀ j ∈ T, ∀ w w' v, R j w v → Le w w' → R j w' v)
    (hstep : ∀ i ∈ T, ∀ f w, G w → (∀ j, depB md ops i j = true → j ∈ T → R j w (f j)) → wpOp P ops Q i (fun a' w' => ∃ v, a' = A (upd f i v) ∧ G w' ∧ R i w' v ∧ Le w w') (A f) w)
    (hGS : ∀ w, G w → S w)
    (hy : ∀ f w, G w → (∀ j ∈ T, j ≠ x → R j w (f j)) → wpOp P ops Q y (fun a' w' => (F.contains y = true ∨ (S w → S w')) ∧ wpAnyF P md ops Q S F fuel ((foldSet (fun t => !(t == x)) T l0).setIfInBounds y true) a' w') (A f) w)
    (hend : ∀ f w, G w → (∀ j ∈ T, R j w (f j)) → wpAnyF P md ops Q S F fuel (foldSet (fun _ => true) T l0) (A f) w)
    (f : Nat → Value) (w : World) (hG : G w) : wpAnyF P md ops Q S F (fuel + T.length) l0 (A f) w := by
  unfold phaseBX at hchk
  rw [Bool.and_eq_true] at hchk
  obtain ⟨hT0, hsub⟩ := hchk
  have hT : ∀ t ∈ T, l0.getD t true = false := fun t ht => by simpa using List.all_eq_true.1 hT0 t ht
  have key : ∀ (n : Nat) (s : Nat → Bool) (f : Nat → Value) (w : World), (T.filter (fun t => !s t)).length = n → (∀ t ∈ T, s t = true → ∀ j ∈ T.filter (depB md ops t), s j = true) → G w → (∀ j ∈ T, s j = true → R j w (f j)) → wpAnyF P md ops Q S F (fuel + n) (foldSet s T l0) (A f) w := by
    intro n
    induction n with
    | zero =>
      intro s f w hn hcl hG hR
      have hall : ∀ t ∈ T, s t = true := fun t ht => by
        have h1 := List.eq_nil_of_length_eq_zero hn
        cases hs : s t
        · have : t ∈ T.filter (fun t => !s t) := List.mem_filter.2 ⟨ht, by rw [hs]; rfl⟩
          rw [h1] at this; cases this
        · rfl
      rw [fold_all s T l0 hall]
      exact hend f w hG (fun j hj => hR j hj (hall j hj))
    | succ n ih =>
      intro s f w hn hcl hG hR
      have hc := allSub_spec s T [] l0 hsub (fun j hj => by cases hj) (fun t ht => by
        have := hT t ht
        rcases Nat.lt_or_ge t l0.size with h' | h'
        · exact h'
        · simp [Array.getElem?_eq_none h'] at this) hcl
      rw [Bool.or_eq_true] at hc
      have hnot : ¬ (T.all (fun t => (foldSet s T l0).getD t true) = true) := by
        intro h
        have h1 : T.filter (fun t => !s t) = [] := by
          rw [List.filter_eq_nil_iff]
          intro t ht hs
          have h2 := List.all_eq_true.1 h t ht
          rw [fold_not s t true (by simpa using hs), hT t ht] at h2
          cases h2
        rw [h1] at hn; cases hn
      have hc2 := hc.resolve_left hnot
      rw [Bool.and_eq_true] at hc2
      refine ⟨fun h0 => ?_, fun i hi => ?_⟩
      · rw [h0] at hc2; simp at hc2
      · by_cases hiT : i ∈ T
        case neg =>
          have h9 := List.all_eq_true.1 hc2.2 i hi
          rw [Bool.or_eq_true] at h9
          have h9 := h9.resolve_left (fun h => hiT (List.contains_iff_mem.1 h))
          rw [Bool.and_eq_true] at h9
          obtain ⟨h10, h11⟩ := h9
          have hiy : i = y := beq_iff_eq.1 h10
          subst hiy
          have hs1 : ∀ t ∈ T, t ≠ x → s t = true := fun t ht hne => by
            have h12 := List.all_eq_true.1 h11 t ht
            rw [Bool.or_eq_true] at h12
            have h12 := h12.resolve_left (fun h => hne (beq_iff_eq.1 h))
            cases hst : s t
            · rw [fold_not s t true hst, hT t ht] at h12; cases h12
            · rfl
          have hxT : ∃ t ∈ T, s t = false := by
            rcases hq : T.filter (fun t => !s t) with _ | ⟨t, l⟩
            · rw [hq] at hn; cases hn
            · have := List.mem_filter.1 (show t ∈ T.filter (fun t => !s t) by rw [hq]; exact List.mem_cons_self)
              exact ⟨t, this.1, by simpa using this.2⟩
          obtain ⟨t0, ht0, hst0⟩ := hxT
          have hx0 : t0 = x := by
            rcases Decidable.em (t0 = x) with h | h
            · exact h
            · rw [hs1 t0 ht0 h] at hst0; cases hst0
          subst hx0
          have hfe : T.filter (fun t => !s t) = [t0] := by
            have h13 : T.filter (fun t => !s t) = T.filter (fun t => t == t0) := List.filter_congr (fun t ht => by
              rcases Decidable.em (t = t0) with h | h
              · subst h; rw [hst0]; simp
              · rw [hs1 t ht h]; simp [h])
            rw [h13]
            rw [List.filter_beq, hnd.count, if_pos ht0]
            rfl
          rw [hfe] at hn
          obtain rfl : n = 0 := by simpa using hn.symm
          have hfold : ∀ (ts : List Nat) (l : Array Bool), (∀ t ∈ ts, t ∈ T) → foldSet s ts l = foldSet (fun t => !(t == t0)) ts l := by
            intro ts
            induction ts with
            | nil => intro l _; rfl
            | cons t ts iht =>
              intro l hts
              unfold foldSet
              have h14 : s t = !(t == t0) := by
                rcases Decidable.em (t = t0) with h | h
                · subst h; rw [hst0]; simp
                · rw [hs1 t (hts t List.mem_cons_self) h]; simp [h]
              rw [h14]
              exact iht _ (fun u hu => hts u (List.mem_cons_of_mem _ hu))
          rw [hfold T l0 (fun t ht => ht)]
          exact hy f w hG (fun j hj hne => hR j hj (hs1 j hj hne))
        obtain ⟨hun, o, ho, hall⟩ := mem_ready.1 hi
        have hsi : s i = false := by
          rw [← Bool.not_eq_true]
          intro h
          rw [fold_true s i h T l0 (.inl hiT)] at hun
          cases hun
        have hdep : ∀ j, depB md ops i j = true → j ∈ T → s j = true := fun j hj hjT => by
          unfold depB at hj
          rw [ho] at hj
          obtain ⟨e, he, hb⟩ := Array.any_eq_true'.1 hj
          rw [Bool.and_eq_true] at hb
          have h3 := hall e he hb.1
          rw [beq_iff_eq.1 hb.2] at h3
          cases hs : s j
          · rw [fold_not s j false hs] at h3
            have h4 := hT j hjT
            rcases Nat.lt_or_ge j l0.size with h' | h'
            · simp [h'] at h3 h4; rw [h3] at h4; cases h4
            · simp [Array.getElem?_eq_none h'] at h3
          · rfl
        refine wpOp_mono (fun a' w' h => ?_) (hstep i hiT f w hG (fun j hj hjT => hR j hjT (hdep j hj hjT)))
        · obtain ⟨v, rfl, hG', hRi, hle⟩ := h
          refine ⟨.inr (fun _ => hGS w' hG'), ?_⟩
          rw [← fold_put s i T l0 hiT]
          refine ih (sput s i) _ w' (filter_less hnd hiT hsi hn) (fun t ht hst j hj => ?_) hG' (fun j hj hs => ?_)
          · obtain ⟨hj1, hj2⟩ := List.mem_filter.1 hj
            have h5 : s j = true := by
              by_cases e : t = i
              · subst e; exact hdep j hj2 hj1
              · exact hcl t ht (by simpa [sput, e] using hst) j hj
            simp [sput, h5]
          unfold upd
          by_cases e : j = i
          · rw [if_pos e, e]; exact hRi
          · rw [if_neg e]
            exact hmono j hj w w' _ (hR j hj (by simpa [sput, e] using hs)) hle
  have h0 := key T.length (fun _ => false) f w (by simp) (fun t ht h => by cases h) hG (fun j hj h => by cases h)
  rwa [fold_none _ T l0 (fun _ _ => rfl)] at h0

/-- The slots of the operations of a phase, written over a frame. -/
def putL (a : Act) (f : Nat → Value) : List (Nat × Nat) → Act
  | [] => a
  | x :: ds => putL (a.put (some x.2) (f x.1)) f ds

theorem put_comm (a : Act) (d e : Nat) (u v : Value) (h : d ≠ e) : (a.put (some d) u).put (some e) v = (a.put (some e) v).put (some d) u := by
  unfold Act.put
  simp only [Act.mk.injEq, and_true]
  exact Array.setIfInBounds_comm _ _ h

theorem put_same (a : Act) (d : Nat) (u v : Value) : (a.put (some d) u).put (some d) v = a.put (some d) v := by
  unfold Act.put
  simp

theorem put_self (a : Act) (d : Nat) : a.put (some d) (a.tmps.getD d undef) = a := by
  have : a.tmps.setIfInBounds d (a.tmps.getD d undef) = a.tmps := by
    apply Array.ext_getElem?
    intro j
    rw [Array.getElem?_setIfInBounds]
    split
    · rename_i h
      subst h
      split
      · rename_i h1
        rw [Array.getElem?_eq_getElem h1]
        simp [h1]
      · rename_i h1
        rw [Array.getElem?_eq_none (by omega)]
    · rfl
  show Act.mk (a.tmps.setIfInBounds d (a.tmps.getD d undef)) a.defers = a
  rw [this]

theorem putL_out (f : Nat → Value) (d : Nat) (v : Value) : ∀ (ds : List (Nat × Nat)) (a : Act), d ∉ ds.map (·.2) → (putL a f ds).put (some d) v = putL (a.put (some d) v) f ds
  | [], _, _ => rfl
  | x :: ds, a, h => by
    simp only [List.map_cons, List.mem_cons, not_or] at h
    unfold putL
    rw [putL_out f d v ds _ h.2, put_comm _ _ _ _ _ (fun e => h.1 e.symm)]

theorem putL_upd (f : Nat → Value) (i : Nat) (v : Value) : ∀ (ds : List (Nat × Nat)) (a : Act), i ∉ ds.map (·.1) → putL a (upd f i v) ds = putL a f ds
  | [], _, _ => rfl
  | x :: ds, a, h => by
    simp only [List.map_cons, List.mem_cons, not_or] at h
    unfold putL
    rw [putL_upd f i v ds _ h.2]
    unfold upd
    rw [if_neg (fun e => h.1 e.symm)]

theorem put_putL (f : Nat → Value) (v : Value) (x : Nat × Nat) : ∀ (ds : List (Nat × Nat)) (a : Act), (ds.map (·.1)).Nodup → (ds.map (·.2)).Nodup → x ∈ ds → (putL a f ds).put (some x.2) v = putL a (upd f x.1 v) ds
  | [], _, _, _, h => by cases h
  | y :: ds, a, h1, h2, h => by
    simp only [List.map_cons, List.nodup_cons] at h1 h2
    unfold putL
    rcases List.mem_cons.1 h with rfl | h
    · rw [putL_out f _ v ds _ h2.1, put_same, putL_upd f _ v ds _ h1.1]
      unfold upd
      rw [if_pos rfl]
    · rw [put_putL f v x ds _ h1.2 h2.2 h]
      have : upd f x.1 v y.1 = f y.1 := if_neg (fun e => h1.1 (by rw [e]; exact List.mem_map_of_mem h))
      rw [this]

theorem putL_self (f : Nat → Value) (a : Act) : ∀ ds : List (Nat × Nat), (∀ x ∈ ds, f x.1 = a.tmps.getD x.2 undef) → putL a f ds = a
  | [], _ => rfl
  | x :: ds, h => by
    unfold putL
    rw [h x List.mem_cons_self, put_self]
    exact putL_self f a ds (fun y hy => h y (List.mem_cons_of_mem _ hy))

theorem exists_f (a : Act) : ∀ ds : List (Nat × Nat), (ds.map (·.1)).Nodup → ∃ f : Nat → Value, ∀ x ∈ ds, f x.1 = a.tmps.getD x.2 undef
  | [], _ => ⟨fun _ => undef, fun x h => by cases h⟩
  | x :: ds, h => by
    simp only [List.map_cons, List.nodup_cons] at h
    obtain ⟨f, hf⟩ := exists_f a ds h.2
    refine ⟨fun i => if i = x.1 then a.tmps.getD x.2 undef else f i, fun y hy => ?_⟩
    rcases List.mem_cons.1 hy with rfl | hy
    · exact if_pos rfl
    · show (if y.1 = x.1 then _ else _) = _
      rw [if_neg (fun e => h.1 (by rw [← e]; exact List.mem_map_of_mem hy))]
      exact hf y hy

theorem phaseP {S : World → Prop} {F : List Nat} {a : Act} {w : World} (ds : List (Nat × Nat)) {l0 : Array Bool} (fuel : Nat) (R : Nat → World → Value → Prop) (G : World → Prop) (Le : World → World → Prop)
    (hnd : (ds.map (·.1)).Nodup) (hnd2 : (ds.map (·.2)).Nodup) (hchk : phaseB md ops (ds.map (·.1)) l0 = true)
    (hmono : ∀ j ∈ ds.map (·.1), ∀ w w' v, R j w v → Le w w' → R j w' v)
    (hstep : ∀ x ∈ ds, ∀ f w, G w → (∀ j, depB md ops x.1 j = true → j ∈ ds.map (·.1) → R j w (f j)) → wpOp P ops Q x.1 (fun a' w' => ∃ v, a' = (putL a f ds).put (some x.2) v ∧ G w' ∧ R x.1 w' v ∧ Le w w') (putL a f ds) w)
    (hGS : ∀ w, G w → S w)
    (hend : ∀ f w, G w → (∀ j ∈ ds.map (·.1), R j w (f j)) → wpAnyF P md ops Q S F fuel (foldSet (fun _ => true) (ds.map (·.1)) l0) (putL a f ds) w)
    (hG : G w) : wpAnyF P md ops Q S F (fuel + ds.length) l0 a w := by
  obtain ⟨f0, hf0⟩ := exists_f a ds hnd
  have h1 := phaseF (P := P) (ops := ops) (Q := Q) (md := md) (S := S) (F := F) (T := ds.map (·.1)) (A := fun f => putL a f ds) (R := R) (G := G) (Le := Le) l0 fuel hnd hchk hmono (fun i hi f w hG hd => by
    obtain ⟨x, hx, rfl⟩ := List.mem_map.1 hi
    refine wpOp_mono (fun a' w' h => ?_) (hstep x hx f w hG hd)
    obtain ⟨v, rfl, h2, h3, h4⟩ := h
    exact ⟨v, put_putL f v x ds a hnd hnd2 hx, h2, h3, h4⟩) hGS hend f0 w hG
  rw [List.length_map] at h1
  rwa [putL_self f0 a ds hf0] at h1

theorem phasePX {S : World → Prop} {F : List Nat} {a : Act} {w : World} (ds : List (Nat × Nat)) (x y : Nat) {l0 : Array Bool} (fuel : Nat) (R : Nat → World → Value → Prop) (G : World → Prop) (Le : World → World → Prop)
    (hnd : (ds.map (·.1)).Nodup) (hnd2 : (ds.map (·.2)).Nodup) (hchk : phaseBX md ops (ds.map (·.1)) x y l0 = true)
    (hmono : ∀ j ∈ ds.map (·.1), ∀ w w' v, R j w v → Le w w' → R j w' v)
    (hstep : ∀ x ∈ ds, ∀ f w, G w → (∀ j, depB md ops x.1 j = true → j ∈ ds.map (·.1) → R j w (f j)) → wpOp P ops Q x.1 (fun a' w' => ∃ v, a' = (putL a f ds).put (some x.2) v ∧ G w' ∧ R x.1 w' v ∧ Le w w') (putL a f ds) w)
    (hGS : ∀ w, G w → S w)
    (hy : ∀ f w, G w → (∀ j ∈ ds.map (·.1), j ≠ x → R j w (f j)) → wpOp P ops Q y (fun a' w' => (F.contains y = true ∨ (S w → S w')) ∧ wpAnyF P md ops Q S F fuel ((foldSet (fun t => !(t == x)) (ds.map (·.1)) l0).setIfInBounds y true) a' w') (putL a f ds) w)
    (hend : ∀ f w, G w → (∀ j ∈ ds.map (·.1), R j w (f j)) → wpAnyF P md ops Q S F fuel (foldSet (fun _ => true) (ds.map (·.1)) l0) (putL a f ds) w)
    (hG : G w) : wpAnyF P md ops Q S F (fuel + ds.length) l0 a w := by
  obtain ⟨f0, hf0⟩ := exists_f a ds hnd
  have h1 := phaseX (x := x) (y := y) (P := P) (ops := ops) (Q := Q) (md := md) (S := S) (F := F) (T := ds.map (·.1)) (A := fun f => putL a f ds) (R := R) (G := G) (Le := Le) l0 fuel hnd hchk hmono (fun i hi f w hG hd => by
    obtain ⟨x, hx, rfl⟩ := List.mem_map.1 hi
    refine wpOp_mono (fun a' w' h => ?_) (hstep x hx f w hG hd)
    obtain ⟨v, rfl, h2, h3, h4⟩ := h
    exact ⟨v, put_putL f v x ds a hnd hnd2 hx, h2, h3, h4⟩) hGS hy hend f0 w hG
  rw [List.length_map] at h1
  rwa [putL_self f0 a ds hf0] at h1

theorem take_a {i : Nat} {oi : Oper} {v : Value} {fuel : Nat} {listed : Array Bool} {a : Act} {w : World} (d : Option Tmp) (hi : ops[i]? = some oi) (hd : oi.dst = d)
    (hs : Region.noSelect ops = true) (hf : Region.free md ops listed i = true) (hr : (Region.ready md ops listed).contains i = true)
    (hQ : ∀ c a w, Q (.panic c) (a.put d v) w → Q (.panic c) a w) (hy : Yields P ops oi v a)
    (h : wpAny P md ops Q fuel (listed.setIfInBounds i true) (a.put d v) w) : wpAny P md ops Q (fuel + 1) listed a w := by
  subst hd
  exact wpAny_take hi hs hf hr hQ hy h

/-- The only operation that may come up is carried out. -/
theorem one_a {i : Nat} {o : Oper} {fuel : Nat} {listed : Array Bool} {a : Act} {w : World} (hr : Region.ready md ops listed = [i]) (ho : ops[i]? = some o)
    (h : ∀ K' : Act → World → Prop, Shut (∀ a w, wpAny P md ops Q fuel (listed.setIfInBounds i true) a w → K' a w) → if Region.wanted o (yielded ops a.tmps) = true then Oper.wp P o a w K' Q else K' (a.put o.dst undef) w) :
    wpAny P md ops Q (fuel + 1) listed a w := by
  refine ⟨fun h0 => (by rw [hr] at h0; cases h0), fun j hj => ?_⟩
  rw [hr, List.mem_singleton] at hj
  subst hj
  exact wpOp_step ho (fun K' hK => h K' (fun a w hW => hK a w hW))
end

end Go.Proofs.Ytfmdnhhdjjndbaa
