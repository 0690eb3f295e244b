/- The contract of nodeset.find, called by Least. -/
import Derived.Test.YthbiopmfbnpmfaaB2
import Derived.Test.YthbiopmfbnpmfaaSortL
import Derived.Sort.OwnSortedInts
namespace Go.Proofs.Ythbiopmfbnpmfaa
set_option linter.unusedVariables false
set_option linter.unusedSimpArgs false
open Go.RowKit Go.Sort

theorem ltN_iff (x y : Int) : Go.Proofs.ltOf cmpN x y = true ↔ (rkA x < rkA y ∨ (rkA x = rkA y ∧ (rkB x < rkB y ∨ (rkB x = rkB y ∧ x < y)))) := by
  unfold Go.Proofs.ltOf
  rw [decide_eq_true_iff, cmpN_lt]

theorem ltN_not (x y : Int) : Go.Proofs.ltOf cmpN x y = false ↔ ¬ (rkA x < rkA y ∨ (rkA x = rkA y ∧ (rkB x < rkB y ∨ (rkB x = rkB y ∧ x < y)))) := by
  rw [← ltN_iff, Bool.not_eq_true]

theorem swoN : SWO (Go.Proofs.ltOf cmpN) where
  irrefl x := by rw [ltN_not]; omega
  trans x y z h1 h2 := by rw [ltN_iff] at *; omega
  ntrans x y z h1 h2 := by rw [ltN_not] at *; omega

theorem totN (x y : Int) (h1 : Go.Proofs.ltOf cmpN x y = false) (h2 : Go.Proofs.ltOf cmpN y x = false) : x = y := by rw [ltN_not] at *; omega

def zs (l : List Nat) : List Int := l.map (fun t : Nat => (t : Int))

theorem zs_len (l : List Nat) : (zs l).length = l.length := List.length_map _

theorem zs_get (l : List Nat) (k : Nat) : (zs l).getD k 0 = ((l.getD k 0 : Nat) : Int) := by
  unfold zs
  rw [List.getD_eq_getElem?_getD, List.getD_eq_getElem?_getD, List.getElem?_map]
  cases l[k]? <;> rfl

theorem zs_snoc (l : List Nat) (x : Nat) : zs (l ++ [x]) = zs l ++ [(x : Int)] := by unfold zs; rw [List.map_append]; rfl

theorem NodesAt.of_ownZ {W : World} {B : Nat} {v : Value} {l : List Nat} (h : W.ownsRow B 3 1 v l.length ((zs l).map (Value.int .i64))) : NodesAt (fun b => B ≤ b) W v (zs l) := NodesAt.of_own (by rw [zs_len]; exact h)

theorem own_snocZ {w : World} {v : Value} {B : Nat} {l : List Nat} {x : Nat} (h : w.ownsRow B 3 1 v (l.length + 1) ((zs l).map (Value.int .i64) ++ [.int .i64 (x : Int)])) : w.ownsRow B 3 1 v (l ++ [x]).length ((zs (l ++ [x])).map (Value.int .i64)) := by
  rw [zs_snoc, List.map_append, List.length_append]; exact h

/-- In the order of sets, each once. -/
def Asc (l : List Nat) : Prop := l.Pairwise (fun a b => keyC a < keyC b)

theorem keyC_inj {a b : Nat} (ha : a < 1024) (hb : b < 1024) (h : keyC a = keyC b) : a = b := by unfold keyC at h; omega

theorem sorted_nat (l : List Nat) (hl : ∀ t ∈ l, t < 1024) (hd : l.Nodup) :
    ∃ m : List Nat, (zs l).mergeSort (fun x y => !(Go.Proofs.ltOf cmpN) y x) = zs m ∧ m.Perm l ∧ Asc m := by
  have hp := List.mergeSort_perm (zs l) (fun x y => !(Go.Proofs.ltOf cmpN) y x)
  have hs := List.pairwise_mergeSort (le := fun x y => !(Go.Proofs.ltOf cmpN) y x)
    (fun a b c h1 h2 => by simp only [Bool.not_eq_true', ltN_not] at *; omega)
    (fun a b => by
      by_cases h : Go.Proofs.ltOf cmpN b a = true
      · have : Go.Proofs.ltOf cmpN a b = false := by rw [ltN_iff] at h; rw [ltN_not]; omega
        simp [this]
      · simp [Bool.eq_false_iff.2 h]) (zs l)
  generalize (zs l).mergeSort (fun x y => !(Go.Proofs.ltOf cmpN) y x) = ts at *
  have hz : ∀ x ∈ ts, ∃ t : Nat, x = (t : Int) ∧ t ∈ l := fun x hx => by
    have := hp.mem_iff.1 hx
    obtain ⟨t, ht, rfl⟩ := List.mem_map.1 this
    exact ⟨t, rfl, ht⟩
  have hts : ts = zs (ts.map Int.toNat) := by
    unfold zs
    rw [List.map_map]
    conv => lhs; rw [← List.map_id ts]
    exact List.map_congr_left (fun x hx => by obtain ⟨t, rfl, _⟩ := hz x hx; rfl)
  have hpm : (ts.map Int.toNat).Perm l := by
    have := hp.map Int.toNat
    refine this.trans (List.Perm.of_eq ?_)
    unfold zs
    rw [List.map_map]
    conv => rhs; rw [← List.map_id l]
    exact List.map_congr_left (fun x _ => rfl)
  refine ⟨ts.map Int.toNat, hts, hpm, ?_⟩
  have hnd : (ts.map Int.toNat).Nodup := hpm.nodup_iff.2 hd
  unfold Asc
  generalize hm : ts.map Int.toNat = m at *
  rw [hts] at hs
  have hs2 : m.Pairwise (fun a b : Nat => (!(Go.Proofs.ltOf cmpN) (b : Int) (a : Int)) = true) := List.pairwise_map.1 hs
  have h3 := (List.Pairwise.and hs2 (List.nodup_iff_pairwise_ne.1 hnd))
  refine List.Pairwise.imp_of_mem (fun {a b} ha hb h => ?_) h3
  obtain ⟨h1, h2⟩ := h
  have ha' := hl a (hpm.mem_iff.1 ha)
  have hb' := hl b (hpm.mem_iff.1 hb)
  have h4 : ¬ keyC b < keyC a := by
    rw [← cmpN_cast b a hb' ha']
    simp only [Bool.not_eq_true'] at h1
    unfold Go.Proofs.ltOf at h1
    exact of_decide_eq_false h1
  rcases Nat.lt_trichotomy (keyC a) (keyC b) with h | h | h
  · exact h
  · exact (h2 (keyC_inj ha' hb' h)).elim
  · exact (h4 h).elim

end Go.Proofs.Ythbiopmfbnpmfaa
