/- The contract of nodeset.find, called by Least. -/
import Derived.Test.YtfchdkgdbdnoiaaDoorThere
import Derived.Test.YtfchdkgdbdnoiaaDoorSortL
import Derived.Sort.OwnSortedInts
namespace Go.Proofs.YtfchdkgdbdnoiaaDoor
set_option linter.unusedVariables false
set_option linter.unusedSimpArgs false
open Go.RowKit Go.Sort

theorem ltN_iff (x y : Int) : Go.Proofs.ltOf cmpN x y = true ↔ (rkA x < rkA y ∨ (rkA x = rkA y ∧ (rkB x < rkB y ∨ (rkB x = rkB y ∧ x < y)))) := by
  unfold Go.Proofs.ltOf
  rw [decide_eq_true_iff, cmpN_lt]

theorem ltN_not (x y : Int) : Go.Proofs.ltOf cmpN x y = false ↔ ¬ (rkA x < rkA y ∨ (rkA x = rkA y ∧ (rkB x < rkB y ∨ (rkB x = rkB y ∧ x < y)))) := by
  rw [← ltN_iff, Bool.not_eq_true]

theorem swoN : SWO (Go.Proofs.ltOf cmpN) where
  irrefl x := by rw [ltN_not]; omega
  trans x y z h1 h2 := by rw [ltN_iff] at *; omega
  ntrans x y z h1 h2 := by rw [ltN_not] at *; omega

theorem totN (x y : Int) (h1 : Go.Proofs.ltOf cmpN x y = false) (h2 : Go.Proofs.ltOf cmpN y x = false) : x = y := by rw [ltN_not] at *; omega

def zs (l : List Nat) : List Int := l.map (fun t : Nat => (t : Int))

theorem zs_len (l : List Nat) : (zs l).length = l.length := List.length_map _

theorem zs_get (l : List Nat) (k : Nat) : (zs l).getD k 0 = ((l.getD k 0 : Nat) : Int) := by
  unfold zs
  rw [List.getD_eq_getElem?_getD, List.getD_eq_getElem?_getD, List.getElem?_map]
  cases l[k]? <;> rfl

theorem zs_snoc (l : List Nat) (x : Nat) : zs (l ++ [x]) = zs l ++ [(x : Int)] := by unfold zs; rw [List.map_append]; rfl

theorem NodesAt.of_ownZ {W : World} {B : Nat} {v : Value} {l : List Nat} (h : W.ownsRow B 3 1 v l.length ((zs l).map (Value.int .i64))) : NodesAt (fun b => B ≤ b) W v (zs l) := NodesAt.of_own (by rw [zs_len]; exact h)

theorem own_snocZ {w : World} {v : Value} {B : Nat} {l : List Nat} {x : Nat} (h : w.ownsRow B 3 1 v (l.length + 1) ((zs l).map (Value.int .i64) ++ [.int .i64 (x : Int)])) : w.ownsRow B 3 1 v (l ++ [x]).length ((zs (l ++ [x])).map (Value.int .i64)) := by
  rw [zs_snoc, List.map_append, List.length_append]; exact h

/-- In the order of sets, each once. -/
def Asc (l : List Nat) : Prop := l.Pairwise (fun a b => keyC a < keyC b)

theorem keyC_inj {a b : Nat} (ha : a < 1024) (hb : b < 1024) (h : keyC a = keyC b) : a = b := by unfold keyC at h; omega

theorem sorted_nat (l : List Nat) (hl : ∀ t ∈ l, t < 1024) (hd : l.Nodup) :
    ∃ m : List Nat, (zs l).mergeSort (fun x y => !(Go.Proofs.ltOf cmpN) y x) = zs m ∧ m.Perm l ∧ Asc m := by
  have hp := List.mergeSort_perm (zs l) (fun x y => !(Go.Proofs.ltOf cmpN) y x)
  have hs := List.pairwise_mergeSort (le := fun x y => !(Go.Proofs.ltOf cmpN) y x)
    (fun a b c h1 h2 => by simp only [Bool.not_eq_true', ltN_not] at *; omega)
    (fun a b => by
      by_cases h : Go.Proofs.ltOf cmpN b a = true
      · have : Go.Proofs.ltOf cmpN a b = false := by rw [ltN_iff] at h; rw [ltN_not]; omega
        simp [this]
      · simp [Bool.eq_false_iff.2 h]) (zs l)
  generalize (zs l).mergeSort (fun x y => !(Go.Proofs.ltOf cmpN) y x) = ts at *
  have hz : ∀ x ∈ ts, ∃ t : Nat, x = (t : Int) ∧ t ∈ l := fun x hx => by
    have := hp.mem_iff.1 hx
    obtain ⟨t, ht, rfl⟩ := List.mem_map.1 this
    exact ⟨t, rfl, ht⟩
  have hts : ts = zs (ts.map Int.toNat) := by
    unfold zs
    rw [List.map_map]
    conv => lhs; rw [← List.map_id ts]
    exact List.map_congr_left (fun x hx => by obtain ⟨t, rfl, _⟩ := hz x hx; rfl)
  have hpm : (ts.map Int.toNat).Perm l := by
    have := hp.map Int.toNat
    refine this.trans (List.Perm.of_eq ?_)
    unfold zs
    rw [List.map_map]
    conv => rhs; rw [← List.map_id l]
    exact List.map_congr_left (fun x _ => rfl)
  refine ⟨ts.map Int.toNat, hts, hpm, ?_⟩
  have hnd : (ts.map Int.toNat).Nodup := hpm.nodup_iff.2 hd
  unfold Asc
  generalize hm : ts.map Int.toNat = m at *
  rw [hts] at hs
  have hs2 : m.Pairwise (fun a b : Nat => (!(Go.Proofs.ltOf cmpN) (b : Int) (a : Int)) = true) := List.pairwise_map.1 hs
  have h3 := (List.Pairwise.and hs2 (List.nodup_iff_pairwise_ne.1 hnd))
  refine List.Pairwise.imp_of_mem (fun {a b} ha hb h => ?_) h3
  obtain ⟨h1, h2⟩ := h
  have ha' := hl a (hpm.mem_iff.1 ha)
  have hb' := hl b (hpm.mem_iff.1 hb)
  have h4 : ¬ keyC b < keyC a := by
    rw [← cmpN_cast b a hb' ha']
    simp only [Bool.not_eq_true'] at h1
    unfold Go.Proofs.ltOf at h1
    exact of_decide_eq_false h1
  rcases Nat.lt_trichotomy (keyC a) (keyC b) with h | h | h
  · exact h
  · exact (h2 (keyC_inj ha' hb' h)).elim
  · exact (h4 h).elim

theorem enters_cmp : ∀ args w, (callFunc 35 args).run Tryd.prog w = .ok (.enter 35 args) w := enters_of Tryd.func35 (by kernel_rfl) rfl

set_option maxHeartbeats 1000000 in
/-- slices.SortFunc by nodeset.Compare, over a row of the call's own that holds sets. -/
theorem sortN_run (l : List Nat) (hl : ∀ t ∈ l, t < 1024) (hd : l.Nodup) (v : Value) (B : Nat) (w : World) (hlen : l.length ≤ 100000) (hown : w.ownsRow B 3 1 v l.length ((zs l).map (Value.int .i64))) :
    Calls Tryd.prog 34 #[v, .func (.func 35) #[] #[]] w fun e w' => e = .returned (.tuple #[]) ∧ ∃ m : List Nat, m.Perm l ∧ Asc m ∧ m.length = l.length ∧ w'.ownsRow B 3 1 v l.length ((zs m).map (Value.int .i64)) ∧ w.grownBy w' v.ownBlock := by
  obtain ⟨m, hm, hp, ha⟩ := sorted_nat l hl hd
  have hlm := hp.length_eq
  rcases hown.2 with ⟨rfl, h0⟩ | ⟨g, cap, cur, rfl, hB, hcell, hnc, hcm, hsz, htk⟩
  · obtain rfl := List.eq_nil_of_length_eq_zero h0
    have h := AnyF.slices_SortFunc_none (P := Tryd.prog) (ρ := sortL_ren) { sortL with } none 0 (.func (.func 35) #[] #[]) w
    refine (show Calls Tryd.prog 34 _ _ _ from h).mono ?_
    rintro e w' ⟨rfl, rfl⟩
    obtain rfl := List.eq_nil_of_length_eq_zero (show m.length = 0 by rw [hlm]; rfl)
    exact ⟨rfl, [], hp, ha, rfl, hown, World.grownBy.refl _ _⟩
  · have hg : g < w.heap.size := (Array.getElem?_eq_some_iff.1 hcell).1
    have hH : Holds (Value.int .i64) w g 0 (zs l).toArray := holds_of_blockI hcell (by rw [zs_len]; simpa using htk)
    have hS := Any.slices_SortFunc_total sortL (Value.int .i64) (fun _ => rfl) cmpN swoN 35 #[] g 0 cap (zs l).toArray w enters_cmp
      (fun mm os dk hs x y => (pcompare_run x y _).mono fun _ _ ⟨he, os', hw⟩ => ⟨he, 0, os', by rw [hw]; rfl⟩) hH hg (by simp [zs_len]; omega) totN
    rw [show (zs l).toArray.size = l.length by simp [zs_len], show (zs l).toArray.toList = zs l from rfl, hm] at hS
    refine (show Calls Tryd.prog 34 _ _ _ from hS).mono ?_
    rintro e w' ⟨rfl, n, os, rfl⟩
    have h1 := ownsRow_sortedI (w := w) (base := B) (g := g) (cap := cap) (n := n) (e := 3) (os := os) (cur := cur) (ss := zs l) (ts := zs m) (by rw [zs_len, zs_len, hlm]) hB hcell (by rw [zs_len]; exact hnc) hcm hsz
    rw [zs_len] at h1
    exact ⟨rfl, m, hp, ha, hlm, h1, grownBy_sortedI _⟩

end Go.Proofs.YtfchdkgdbdnoiaaDoor
