/- The contract of trustquorummake.Config: a configuration made from a tape. -/
import Derived.Test.YtfghnkgllmofgaaGroup
namespace Go.Proofs.Ytfghnkgllmofgaa
set_option linter.unusedVariables false
set_option linter.unusedSimpArgs false
open Go.RowKit

/-- The members of a configuration that is being made: a slice of its own whose cells are members with trusts that lie elsewhere. -/
def MemRow (B d : Nat) (W : World) (v : Value) (ms : List Mem) : Prop :=
  ∃ cs : List Value, W.ownsRow B 53 4 v ms.length cs ∧ ∀ k m, ms[k]? = some m → ∃ x0 x1 x2, cs[k * 4]? = some (.bool m.1) ∧ cs[k * 4 + 1]? = some x0 ∧ cs[k * 4 + 2]? = some x1 ∧ cs[k * 4 + 3]? = some x2 ∧ TAt (fun b => B ≤ b ∧ v.ownBlock ≠ some b) d W x0 x1 x2 m.2

theorem MemRow.nil (B d : Nat) (W : World) : MemRow B d W (.slice none 0 0) [] := ⟨[], World.ownsRow_nil _ _ _ _, fun k T h => by simp at h⟩

theorem MemRow.own {B d : Nat} {W : World} {v : Value} {ms : List Mem} (h : MemRow B d W v ms) : ∀ j, v.ownBlock = some j → B ≤ j ∧ j < W.heap.size := by
  obtain ⟨cs, h1, _⟩ := h
  exact h1.lt

/-- All blocks from B on that are there stay. -/
theorem MemRow.keep {B d : Nat} {W W' : World} {v : Value} {ms : List Mem} (h : MemRow B d W v ms) (hk : ∀ q, B ≤ q → q < W.heap.size → W'.heap[q]? = W.heap[q]?) : MemRow B d W' v ms := by
  obtain ⟨cs, h1, h2⟩ := h
  refine ⟨cs, own_keepG h1 (fun j _ hB hl => hk j hB hl), fun k m hm => ?_⟩
  obtain ⟨x0, x1, x2, e0, e1, e2, e3, e4⟩ := h2 k m hm
  exact ⟨x0, x1, x2, e0, e1, e2, e3, e4.keep (fun q hq hP => hk q hP.1 hq)⟩

/-- One more member. -/
theorem MemRow.append {B d : Nat} {wo WA W4 : World} {lv x0 x1 x2 : Value} {ms : List Mem} {m : Mem} {g4 cap4 : Nat} {cs : List Value} (h : MemRow B d wo lv ms) (low : ∀ q, B ≤ q → q < wo.heap.size → WA.heap[q]? = wo.heap[q]?) (hsz : wo.heap.size ≤ WA.heap.size) (hB : B ≤ wo.heap.size)
    (hcl : ∀ k m, ms[k]? = some m → ∃ x0 x1 x2, cs[k * 4]? = some (.bool m.1) ∧ cs[k * 4 + 1]? = some x0 ∧ cs[k * 4 + 2]? = some x1 ∧ cs[k * 4 + 3]? = some x2 ∧ TAt (fun b => B ≤ b ∧ lv.ownBlock ≠ some b) d wo x0 x1 x2 m.2) (hcn : cs.length = ms.length * 4)
    (hT : TAt (fun b => wo.heap.size ≤ b) d WA x0 x1 x2 m.2)
    (hown4 : W4.ownsRow B 53 4 (.slice (some ⟨g4, 0, none⟩) (ms.length + 1) cap4) (ms.length + 1) (cs ++ [.bool m.1, x0, x1, x2])) (hg4 : WA.grownBy W4 lv.ownBlock) (hat4 : lv.ownBlock = some g4 ∨ g4 = WA.heap.size) :
    MemRow B d W4 (.slice (some ⟨g4, 0, none⟩) (ms.length + 1) cap4) (ms ++ [m]) := by
  have HOW := h.own
  have up : ∀ {y0 y1 y2 : Value} {S : Tree}, TAt (fun b => B ≤ b ∧ lv.ownBlock ≠ some b) d WA y0 y1 y2 S → TAt (fun b => B ≤ b ∧ (Value.slice (some ⟨g4, 0, none⟩) (ms.length + 1) cap4).ownBlock ≠ some b) d W4 y0 y1 y2 S := fun h =>
    TAt.both (fun q hq hP => hg4.block q hq (fun e => hP.2 e.symm)) (fun q hq hP => ⟨hP.1, fun e => by
      have e' : g4 = q := by simpa [Value.ownBlock] using e
      rcases hat4 with hat | hat
      · exact hP.2 (by rw [hat, e'])
      · omega⟩) _ _ _ _ _ h
  refine ⟨cs ++ [.bool m.1, x0, x1, x2], by simpa using hown4, fun k S hS => ?_⟩
  rcases Nat.lt_or_ge k ms.length with hk | hk
  · rw [List.getElem?_append_left hk] at hS
    obtain ⟨y0, y1, y2, e0, e1, e2, e3, e4⟩ := hcl k S hS
    exact ⟨y0, y1, y2, by rw [List.getElem?_append_left (by omega)]; exact e0, by rw [List.getElem?_append_left (by omega)]; exact e1, by rw [List.getElem?_append_left (by omega)]; exact e2, by rw [List.getElem?_append_left (by omega)]; exact e3, up (e4.keep (fun q hq hP => low q hP.1 hq))⟩
  · have hk2 : k = ms.length := by
      have := (List.getElem?_eq_some_iff.1 hS).1
      simp at this; omega
    subst hk2
    have hS' : S = m := by simpa using hS.symm
    subst hS'
    refine ⟨x0, x1, x2, ?_, ?_, ?_, ?_, up (hT.imp (fun q _ hq => ⟨by omega, fun e => by have := (HOW q e).2; omega⟩))⟩
    · rw [List.getElem?_append_right (by omega)]; simp [hcn]
    · rw [List.getElem?_append_right (by omega), show ms.length * 4 + 1 - cs.length = 1 by omega]; rfl
    · rw [List.getElem?_append_right (by omega), show ms.length * 4 + 2 - cs.length = 2 by omega]; rfl
    · rw [List.getElem?_append_right (by omega), show ms.length * 4 + 3 - cs.length = 3 by omega]; rfl

theorem MemRow.mems {B d : Nat} {W : World} {v : Value} {ms : List Mem} {P : Nat → Prop} (h : MemRow B d W v ms) (hP : ∀ b, B ≤ b → P b) : MemsAt P d W v ms := by
  obtain ⟨cs, h1, h2⟩ := h
  rcases h1.2 with ⟨hv, h0⟩ | ⟨g, cap, cur, hv, hb, _⟩
  · exact ⟨none, 0, by rw [hv, h0], fun k T hT => by have := (List.getElem?_eq_some_iff.1 hT).1; omega⟩
  · refine ⟨some ⟨g, 0, none⟩, cap, hv, fun k m hm => ?_⟩
    obtain ⟨x0, x1, x2, e0, e1, e2, e3, e4⟩ := h2 k m hm
    have c : ∀ j u, cs[j]? = some u → W.cell? ⟨g, 0 + j, none⟩ = some u := fun j u hu => by
      have := h1.cells (g := g) (by rw [hv]; rfl) j u hu
      rwa [Addr.add_lit] at this
    exact ⟨g, 0, x0, x1, x2, rfl, hP g hb, c _ _ e0, by rw [Nat.add_assoc]; exact c _ _ e1, by rw [Nat.add_assoc]; exact c _ _ e2, by rw [Nat.add_assoc]; exact c _ _ e3, e4.imp (fun q _ hq => hP q hq.1)⟩

/-- What is said of the members: a declared one has a well-formed trust, an undeclared one none. -/
def MemsOk (m : Nat) (ms : List Mem) : Prop := ∀ x ∈ ms, (x.1 = true → WF m 2 x.2) ∧ (x.1 = false → x.2 = .mk 0 [] [])

theorem cell_four_new (w : World) (a b c e : Value) (t : TypeId) : ∀ j u, [a, b, c, e][j]? = some u → (w.alloc (.cells #[a, b, c, e] t)).cell? ((⟨w.heap.size, 0, none⟩ : Addr).add j) = some u :=
  fun j u hu => World.news_of_block (heap_alloc_new w _) j u (by simpa using hu)

/-- The world of Config. -/
structure ConfAt (w W : World) (g cb sb m : Nat) (v : Value) (ms : List Mem) : Prop where
  row : MemRow (cb + 1) 2 W v ms
  ok : MemsOk m ms
  out : W.heap[cb]? = some (.cells #[v] 27 (0, 0))
  res : W.heap[g]? = some (.cells #[.slice none 0 0] 27 (0, 0))
  tape : TapeOk W sb
  grown : w.grownBy W (some sb)
  size : cb + 1 ≤ W.heap.size

theorem conf_app {w wo WA W4 : World} {g cb sb m g4 cap4 : Nat} {lv x0 x1 x2 : Value} {ms : List Mem} {x : Mem} {cs : List Value} (h : ConfAt w wo g cb sb m lv ms) (hg : w.heap.size = g) (h0 : sb < g) (h1 : g < cb) (low : ∀ q, q < wo.heap.size → q ≠ sb → WA.heap[q]? = wo.heap[q]?) (hs : TapeOk WA sb) (hgr : w.grownBy WA (some sb)) (hsz : wo.heap.size ≤ WA.heap.size)
    (hcl : ∀ k m, ms[k]? = some m → ∃ x0 x1 x2, cs[k * 4]? = some (.bool m.1) ∧ cs[k * 4 + 1]? = some x0 ∧ cs[k * 4 + 2]? = some x1 ∧ cs[k * 4 + 3]? = some x2 ∧ TAt (fun b => cb + 1 ≤ b ∧ lv.ownBlock ≠ some b) 2 wo x0 x1 x2 m.2) (hcn : cs.length = ms.length * 4)
    (hT : TAt (fun b => wo.heap.size ≤ b) 2 WA x0 x1 x2 x.2) (hok : (x.1 = true → WF m 2 x.2) ∧ (x.1 = false → x.2 = .mk 0 [] []))
    (hown4 : W4.ownsRow (cb + 1) 53 4 (.slice (some ⟨g4, 0, none⟩) (ms.length + 1) cap4) (ms.length + 1) (cs ++ [.bool x.1, x0, x1, x2])) (hg4 : WA.grownBy W4 lv.ownBlock) (hat4 : lv.ownBlock = some g4 ∨ g4 = WA.heap.size) :
    ConfAt w (W4.setCell ⟨cb, 0, none⟩ (.slice (some ⟨g4, 0, none⟩) (ms.length + 1) cap4)) g cb sb m (.slice (some ⟨g4, 0, none⟩) (ms.length + 1) cap4) (ms ++ [x]) := by
  have HOW := h.row.own
  have hz4 := hg4.size
  have hlow4 : ∀ q, q < cb + 1 → q ≠ sb → W4.heap[q]? = wo.heap[q]? := fun q hq hn => (hg4.block q (by have := h.size; omega) (fun e => by have := (HOW _ e.symm).1; omega)).trans (low q (by have := h.size; omega) hn)
  have far : ∀ q, q ≠ cb → (W4.setCell ⟨cb, 0, none⟩ (.slice (some ⟨g4, 0, none⟩) (ms.length + 1) cap4)).heap[q]? = W4.heap[q]? := fun q hq => Below.heap_setCell _ _ _ _ (by simpa using hq)
  refine ⟨(MemRow.append h.row (fun q hq hl => low q hl (by omega)) hsz h.size hcl hcn hT hown4 hg4 hat4).keep (fun q hq _ => far q (by omega)), ?_, ?_, ?_, ?_, ?_, ?_⟩
  · intro y hy
    rcases List.mem_append.1 hy with h2 | h2
    · exact h.ok y h2
    · rw [List.mem_singleton] at h2; rw [h2]; exact hok
  · have h2 := (hlow4 cb (by omega) (by omega)).trans h.out
    simp [World.setCell, Array.getElem?_modify, h2]
  · exact (far g (by omega)).trans ((hlow4 g (by omega) (by omega)).trans h.res)
  · exact (hs.keepLow (fun q hq => hg4.block q (by have := h.size; omega) (fun e => by have := (HOW _ e.symm).1; omega))).setCell (p := ⟨cb, 0, none⟩) (by show sb < cb; omega) _
  · exact gset (gown hgr hg4 (fun j hj => by have := (HOW j hj).1; omega)) (p := ⟨cb, 0, none⟩) (by show w.heap.size ≤ cb; omega) _
  · have := h.size
    simp only [World.setCell, Array.size_modify]; omega

set_option maxRecDepth 100000 in
set_option maxHeartbeats 4000000 in
theorem config_run (sb n : Nat) (hn : 1 ≤ n) (hn1 : n ≤ 10) (w : World) (hs : TapeOk w sb) :
    Calls Try.prog 6 #[.pointer (some ⟨sb, 0, none⟩), .int .i64 n] w fun e w' => ∃ (v : Value) (ms : List Mem), e = .returned (.agg #[v]) ∧ 1 ≤ ms.length ∧ ms.length ≤ n ∧ MemsAt (fun b => w.heap.size ≤ b) 2 w' v ms ∧ MemsOk ms.length ms ∧ TapeOk w' sb ∧ w.grownBy w' (some sb) := by
  obtain ⟨i4, hi4, hy0, hy1, hy2⟩ := info_parts infoMember
  have hsl := hs.lt
  have HS := Lib.hid hs
  clear hs
  go_enter Try.func6, Try.ntmps6
  go_wp2_with fail
  refine (TRange_run _ sb _ _ (by omega) (by omega) (by omega) (HS.out.alloc _)).mono ?_
  rintro e w1 ⟨r, hr0, hr1, rfl, hs1, hg1⟩
  obtain ⟨m, rfl⟩ := Int.eq_ofNat_of_zero_le (show 0 ≤ r by omega)
  have HS1 := Lib.hid hs1
  have HG1 := Lib.hid hg1
  clear hs1 hg1
  go_wp2_with fail
  refine (TN_run _ sb _ (by omega) (by omega) HS1.out).mono ?_
  rintro e w2 ⟨kd, hk0, hk1, rfl, hs2, hg2⟩
  have hg02 := grown_trans (grown_below (r := some sb) (balloc (bref w) (.cells #[.slice none 0 0] 27))) (grown_trans HG1.out hg2)
  have hres2 : w2.heap[w.heap.size]? = some (.cells #[.slice none 0 0] 27 (0, 0)) := ((grown_trans HG1.out hg2).block w.heap.size (by simp) (by simp; omega)).trans (heap_alloc_new _ _)
  have hlt2 : w.heap.size < w2.heap.size := by
    rcases Nat.lt_or_ge w.heap.size w2.heap.size with h1 | h1
    · exact h1
    · rw [Array.getElem?_eq_none h1] at hres2; cases hres2
  have hba := balloc (bref w2) (.cells #[.slice none 0 0] 27)
  have HCO := Lib.hid (show ConfAt w (w2.alloc (.cells #[.slice none 0 0] 27)) w.heap.size w2.heap.size sb m (.slice none 0 0) [] from
    ⟨MemRow.nil _ _ _, fun x hx => by simp at hx, alloc_at rfl, alloc_on hres2, hs2.alloc _, grown_trans hg02 (grown_below hba), by rw [alloc_sz]; exact Nat.le_refl _⟩)
  clear hs2 hg2 hg02 hres2 hba HS1 HG1 HS
  go_upto_region 4 with fail
  generalize w2.alloc (.cells #[.slice none 0 0] 27) = W0 at *
  generalize w2.heap.size = cb at *
  generalize hg : w.heap.size = g at *
  have HG := Lib.hid hg
  clear hg
  go_wp2_with fail
  go_loopw [8] (fun t W => ∃ (k : Nat) (v : Value) (ms : List Mem), k ≤ m ∧ t = .int .i64 k ∧ ms.length = k ∧ Hid (ConfAt w W g cb sb m v ms)) (fun t _ => m - (intOf t).toNat)
  case atStart => exact ⟨0, .slice none 0 0, [], by omega, rfl, rfl, HCO⟩
  case round =>
    obtain ⟨k, v, ms, hk, rfl, hlen, hCo⟩ := hrel
    by_cases hlt : k < m
    · obtain ⟨wo, hwo⟩ : ∃ x, x = wr := ⟨_, rfl⟩
      subst hwo
      have hkm : (k : Int) < (m : Int) := by omega
      have hco1 := hCo.out.size
      have hgcb : g < cb := by omega
      have hba := balloc (bref wo) (.cells #[.int .i64 0, .slice none 0 0, .slice none 0 0] 49)
      have HX1 := Lib.hid (show OutAt (wo.alloc (.cells #[.int .i64 0, .slice none 0 0, .slice none 0 0] 49)) wo.heap.size 0 (.slice none 0 0) (.slice none 0 0) from alloc_at rfl)
      have HT1 := Lib.hid (hCo.out.tape.below hba)
      have HBA := Lib.hid hba
      have HRO := Lib.hid hCo.out.row.own
      obtain ⟨cs, hcs, hcl⟩ := hCo.out.row
      have hcn := hcs.1
      have HCL := Lib.hid hcl
      clear hba hcl
      have kdc : kd = 0 ∨ kd = 1 ∨ kd = 2 := by omega
      rcases kdc with rfl | rfl | rfl
      · go_wp2_with fail
        refine (mkTrust_run sb m (by omega) (by omega) 1 (by omega) _ HT1.out).mono ?_
        rintro e W2 ⟨x0, x1, x2, T, rfl, hT, hF, hs2, hg2⟩
        have hF2 : WF m 2 T := hF.1
        obtain ⟨t', A', n', ca, B', m', cb', rfl, rfl, rfl⟩ := hT.form
        have hz2 := hg2.size
        rw [alloc_sz] at hz2
        have hO2 := HX1.out.keep (hg2.block wo.heap.size HX1.out.lt (by simp; omega))
        have hO3 := ((hO2.set0 t').set1 (.slice A' n' ca)).set2 (.slice B' m' cb')
        obtain ⟨o0, o1, o2⟩ := hO2.cs
        have of0 := hO2.fr 0
        have of1 := hO2.fr 1
        have of2 := hO2.fr 2
        have farx : ∀ q, q ≠ wo.heap.size → (((W2.setCell ⟨wo.heap.size, 0, none⟩ (.int .i64 t')).setCell ⟨wo.heap.size, 1, none⟩ (.slice A' n' ca)).setCell ⟨wo.heap.size, 2, none⟩ (.slice B' m' cb')).heap[q]? = W2.heap[q]? := fun q hq =>
          (Below.heap_setCell _ _ _ _ (by simpa using hq)).trans ((Below.heap_setCell _ _ _ _ (by simpa using hq)).trans (Below.heap_setCell _ _ _ _ (by simpa using hq)))
        have hsz3 : (((W2.setCell ⟨wo.heap.size, 0, none⟩ (.int .i64 t')).setCell ⟨wo.heap.size, 1, none⟩ (.slice A' n' ca)).setCell ⟨wo.heap.size, 2, none⟩ (.slice B' m' cb')).heap.size = W2.heap.size := by simp only [World.setCell, Array.size_modify]
        have HT3 := Lib.hid (((hs2.setCell (p := ⟨wo.heap.size, 0, none⟩) (by show sb < wo.heap.size; omega) (.int .i64 t')).setCell (p := ⟨wo.heap.size, 1, none⟩) (by show sb < wo.heap.size; omega) (.slice A' n' ca)).setCell (p := ⟨wo.heap.size, 2, none⟩) (by show sb < wo.heap.size; omega) (.slice B' m' cb'))
        have HG3 := Lib.hid (gset (gset (gset (grown_trans hCo.out.grown (grown_trans (grown_below HBA.out) hg2)) (p := ⟨wo.heap.size, 0, none⟩) (by rw [HG.out]; show g ≤ wo.heap.size; omega) (.int .i64 t')) (p := ⟨wo.heap.size, 1, none⟩) (by rw [HG.out]; show g ≤ wo.heap.size; omega) (.slice A' n' ca)) (p := ⟨wo.heap.size, 2, none⟩) (by rw [HG.out]; show g ≤ wo.heap.size; omega) (.slice B' m' cb'))
        have HLOW3 := Lib.hid (fun q (hq : q < wo.heap.size) (hn : q ≠ sb) => (farx q (by omega)).trans ((hg2.block q (by rw [alloc_sz]; omega) (by simpa using hn)).trans (HBA.out.block q hq)))
        have HTR3 := Lib.hid (TAt.both (Q := fun b => wo.heap.size + 1 ≤ b) (fun q _ hP => farx q (by rw [alloc_sz] at hP; omega)) (fun q _ hP => by rw [alloc_sz] at hP; exact hP) _ _ _ _ _ hT)
        have HO3 := Lib.hid hO3
        have HW := Lib.hid hF2
        clear hT hF hF2 hs2 hg2 hO2 hO3 farx
        go_upto_region 14 with fail
        generalize (((W2.setCell ⟨wo.heap.size, 0, none⟩ (.int .i64 t')).setCell ⟨wo.heap.size, 1, none⟩ (.slice A' n' ca)).setCell ⟨wo.heap.size, 2, none⟩ (.slice B' m' cb')) = W3 at *
        go_wp2_with fail
        refine (TN_run _ sb _ (by omega) (by omega) HT3.out).mono ?_
        rintro e W4 ⟨q, hq0, hq1, rfl, hs4, hg4⟩
        have hz4 := hg4.size
        have HT4 := Lib.hid hs4
        have HG4 := Lib.hid (grown_trans HG3.out hg4)
        have HO4 := Lib.hid (HO3.out.keep (hg4.block _ HO3.out.lt (by simp; omega)))
        have HLOW := Lib.hid (fun q (hq : q < wo.heap.size) (hn : q ≠ sb) => (hg4.block q (by omega) (by simpa using hn)).trans (HLOW3.out q hq hn))
        have HTR4 := Lib.hid (TAt.both (Q := fun b => wo.heap.size ≤ b) (fun q hq hP => hg4.block q hq (by simp; omega)) (fun q _ hP => by omega) _ _ _ _ _ HTR3.out)
        clear hs4 hg4 HLOW3 HTR3 HO3 HT3 HG3 o0 o1 o2 of0 of1 of2
        obtain ⟨o0, o1, o2⟩ := HO4.out.cs
        have hcb4 : W4.heap[cb]? = some (.cells #[v] 27 (0, 0)) := (HLOW.out cb (by omega) (by omega)).trans hCo.out.out
        have c4 : W4.cell? ⟨cb, 0, none⟩ = some v := cell_of_row _ _ 0 _ _ (0, 0) hcb4
        clear hcb4
        by_cases h11 : q = 11
        · subst h11
          have hba4 := balloc (bref W4) (.cells #[.bool false, .int .i64 0, .slice none 0 0, .slice none 0 0] 53)
          have hlowA : ∀ q, q < wo.heap.size → q ≠ sb → (W4.alloc (.cells #[.bool false, .int .i64 0, .slice none 0 0, .slice none 0 0] 53)).heap[q]? = wo.heap[q]? := fun q hq hn => (hba4.block q (by omega)).trans (HLOW.out q hq hn)
          have HLOWA := Lib.hid hlowA
          have HCSA := Lib.hid (own_keepG hcs (fun q hq hB hl => hlowA q hl (by omega)))
          have HTA := Lib.hid (HT4.out.below hba4)
          have HGA := Lib.hid (grown_trans HG4.out (grown_below hba4))
          have HTT := Lib.hid (show TAt (fun b => wo.heap.size ≤ b) 2 (W4.alloc (.cells #[.bool false, .int .i64 0, .slice none 0 0, .slice none 0 0] 53)) (.int .i64 0) (.slice none 0 0) (.slice none 0 0) (.mk 0 [] []) from ⟨rfl, by simp, by simp, ⟨none, 0, rfl, fun k hk => by simp at hk⟩, ⟨none, 0, rfl, fun k T hT => by simp at hT⟩⟩)
          have HSZ := Lib.hid (show wo.heap.size ≤ (W4.alloc (.cells #[.bool false, .int .i64 0, .slice none 0 0, .slice none 0 0] 53)).heap.size by rw [alloc_sz]; omega)
          have hcbA : (W4.alloc (.cells #[.bool false, .int .i64 0, .slice none 0 0, .slice none 0 0] 53)).heap[cb]? = some (.cells #[v] 27 (0, 0)) := (hlowA cb (by omega) (by omega)).trans hCo.out.out
          have HCBA := Lib.hid hcbA
          clear hlowA hba4 hcbA
          go_wp2_with (at_builtin; refine wpList_append_lies _ rfl _ _ 25 rfl (cb + 1) 53 i4 (.agg #[.bool false, .int .i64 0, .slice none 0 0, .slice none 0 0]) 4 64 Try.underlying25 hi4 hy0 hy1 hy2 rfl (by decide) _ ms.length cs rfl (by exact HCSA.out) ⟨_, 0, none⟩ 1 1 [.bool false, .int .i64 0, .slice none 0 0, .slice none 0 0] rfl rfl (cell_four_new _ _ _ _ _ _) (by intro u hu; simp at hu; rcases hu with rfl | rfl | rfl | rfl <;> rfl) (by omega) (by unfold maxLen; omega) (by omega) (by rw [alloc_sz]; omega) _ rfl ?_; intro g4 cap4 W5 hown4 hgrow4 hat4 hlt4; have hcb5 : W5.heap[cb]? = some (.cells #[v] 27 (0, 0)) := (hgrow4.block cb (by rw [alloc_sz]; omega) (fun e => by have := (HRO.out _ e.symm).1; omega)).trans HCBA.out; have s0 : W5.cell? ⟨cb, 0, none⟩ = some v := cell_of_row _ _ 0 _ _ (0, 0) hcb5; have sf : W5.frozen? ⟨cb, 0, none⟩ = false := by simp [World.frozen?, hcb5])
          have hpost := conf_app (x := (false, .mk 0 [] [])) hCo.out HG.out hsl hgcb HLOWA.out HTA.out HGA.out HSZ.out HCL.out hcn HTT.out ⟨fun h => (by cases h), fun _ => rfl⟩ hown4 hgrow4 hat4
          rw [hlen] at hpost
          have HP := Lib.hid hpost
          clear hpost hown4 hgrow4 hat4 hlt4 hcb5 s0 sf
          go_roundw
          case rel => exact ⟨k + 1, _, ms ++ [(false, .mk 0 [] [])], by omega, by go_num, by simp; omega, HP⟩
          case measure => simp [intOf]; omega
        · have hq11 : (q == 11) = false := by simpa using h11
          have hba4 := balloc (bref W4) (.cells #[.bool true, .int .i64 t', .slice A' n' ca, .slice B' m' cb'] 53)
          have hlowA : ∀ q, q < wo.heap.size → q ≠ sb → (W4.alloc (.cells #[.bool true, .int .i64 t', .slice A' n' ca, .slice B' m' cb'] 53)).heap[q]? = wo.heap[q]? := fun q hq hn => (hba4.block q (by omega)).trans (HLOW.out q hq hn)
          have HLOWA := Lib.hid hlowA
          have HCSA := Lib.hid (own_keepG hcs (fun q hq hB hl => hlowA q hl (by omega)))
          have HTA := Lib.hid (HT4.out.below hba4)
          have HGA := Lib.hid (grown_trans HG4.out (grown_below hba4))
          have HTT := Lib.hid (show TAt (fun b => wo.heap.size ≤ b) 2 (W4.alloc (.cells #[.bool true, .int .i64 t', .slice A' n' ca, .slice B' m' cb'] 53)) (.int .i64 t') (.slice A' n' ca) (.slice B' m' cb') (T) from HTR4.out.below hba4)
          have HSZ := Lib.hid (show wo.heap.size ≤ (W4.alloc (.cells #[.bool true, .int .i64 t', .slice A' n' ca, .slice B' m' cb'] 53)).heap.size by rw [alloc_sz]; omega)
          have hcbA : (W4.alloc (.cells #[.bool true, .int .i64 t', .slice A' n' ca, .slice B' m' cb'] 53)).heap[cb]? = some (.cells #[v] 27 (0, 0)) := (hlowA cb (by omega) (by omega)).trans hCo.out.out
          have HCBA := Lib.hid hcbA
          clear hlowA hba4 hcbA
          go_wp2_with (at_builtin; refine wpList_append_lies _ rfl _ _ 25 rfl (cb + 1) 53 i4 (.agg #[.bool false, .int .i64 0, .slice none 0 0, .slice none 0 0]) 4 64 Try.underlying25 hi4 hy0 hy1 hy2 rfl (by decide) _ ms.length cs rfl (by exact HCSA.out) ⟨_, 0, none⟩ 1 1 [.bool true, .int .i64 t', .slice A' n' ca, .slice B' m' cb'] rfl rfl (cell_four_new _ _ _ _ _ _) (by intro u hu; simp at hu; rcases hu with rfl | rfl | rfl | rfl <;> rfl) (by omega) (by unfold maxLen; omega) (by omega) (by rw [alloc_sz]; omega) _ rfl ?_; intro g4 cap4 W5 hown4 hgrow4 hat4 hlt4; have hcb5 : W5.heap[cb]? = some (.cells #[v] 27 (0, 0)) := (hgrow4.block cb (by rw [alloc_sz]; omega) (fun e => by have := (HRO.out _ e.symm).1; omega)).trans HCBA.out; have s0 : W5.cell? ⟨cb, 0, none⟩ = some v := cell_of_row _ _ 0 _ _ (0, 0) hcb5; have sf : W5.frozen? ⟨cb, 0, none⟩ = false := by simp [World.frozen?, hcb5])
          have hpost := conf_app (x := (true, T)) hCo.out HG.out hsl hgcb HLOWA.out HTA.out HGA.out HSZ.out HCL.out hcn HTT.out ⟨fun _ => HW.out, fun h => (by cases h)⟩ hown4 hgrow4 hat4
          rw [hlen] at hpost
          have HP := Lib.hid hpost
          clear hpost hown4 hgrow4 hat4 hlt4 hcb5 s0 sf
          go_roundw
          case rel => exact ⟨k + 1, _, ms ++ [(true, T)], by omega, by go_num, by simp; omega, HP⟩
          case measure => simp [intOf]; omega
      · go_wp2_with fail
        refine (most_run sb m (by omega) (by omega) _ HT1.out).mono ?_
        rintro e W2 ⟨x0, x1, x2, T, rfl, hT, hF, hs2, hg2⟩
        have hF2 : WF m 2 T := hF.up
        replace hT := hT.up
        obtain ⟨t', A', n', ca, B', m', cb', rfl, rfl, rfl⟩ := hT.form
        have hz2 := hg2.size
        rw [alloc_sz] at hz2
        have hO2 := HX1.out.keep (hg2.block wo.heap.size HX1.out.lt (by simp; omega))
        have hO3 := ((hO2.set0 t').set1 (.slice A' n' ca)).set2 (.slice B' m' cb')
        obtain ⟨o0, o1, o2⟩ := hO2.cs
        have of0 := hO2.fr 0
        have of1 := hO2.fr 1
        have of2 := hO2.fr 2
        have farx : ∀ q, q ≠ wo.heap.size → (((W2.setCell ⟨wo.heap.size, 0, none⟩ (.int .i64 t')).setCell ⟨wo.heap.size, 1, none⟩ (.slice A' n' ca)).setCell ⟨wo.heap.size, 2, none⟩ (.slice B' m' cb')).heap[q]? = W2.heap[q]? := fun q hq =>
          (Below.heap_setCell _ _ _ _ (by simpa using hq)).trans ((Below.heap_setCell _ _ _ _ (by simpa using hq)).trans (Below.heap_setCell _ _ _ _ (by simpa using hq)))
        have hsz3 : (((W2.setCell ⟨wo.heap.size, 0, none⟩ (.int .i64 t')).setCell ⟨wo.heap.size, 1, none⟩ (.slice A' n' ca)).setCell ⟨wo.heap.size, 2, none⟩ (.slice B' m' cb')).heap.size = W2.heap.size := by simp only [World.setCell, Array.size_modify]
        have HT3 := Lib.hid (((hs2.setCell (p := ⟨wo.heap.size, 0, none⟩) (by show sb < wo.heap.size; omega) (.int .i64 t')).setCell (p := ⟨wo.heap.size, 1, none⟩) (by show sb < wo.heap.size; omega) (.slice A' n' ca)).setCell (p := ⟨wo.heap.size, 2, none⟩) (by show sb < wo.heap.size; omega) (.slice B' m' cb'))
        have HG3 := Lib.hid (gset (gset (gset (grown_trans hCo.out.grown (grown_trans (grown_below HBA.out) hg2)) (p := ⟨wo.heap.size, 0, none⟩) (by rw [HG.out]; show g ≤ wo.heap.size; omega) (.int .i64 t')) (p := ⟨wo.heap.size, 1, none⟩) (by rw [HG.out]; show g ≤ wo.heap.size; omega) (.slice A' n' ca)) (p := ⟨wo.heap.size, 2, none⟩) (by rw [HG.out]; show g ≤ wo.heap.size; omega) (.slice B' m' cb'))
        have HLOW3 := Lib.hid (fun q (hq : q < wo.heap.size) (hn : q ≠ sb) => (farx q (by omega)).trans ((hg2.block q (by rw [alloc_sz]; omega) (by simpa using hn)).trans (HBA.out.block q hq)))
        have HTR3 := Lib.hid (TAt.both (Q := fun b => wo.heap.size + 1 ≤ b) (fun q _ hP => farx q (by rw [alloc_sz] at hP; omega)) (fun q _ hP => by rw [alloc_sz] at hP; exact hP) _ _ _ _ _ hT)
        have HO3 := Lib.hid hO3
        have HW := Lib.hid hF2
        clear hT hF hF2 hs2 hg2 hO2 hO3 farx
        go_upto_region 14 with fail
        generalize (((W2.setCell ⟨wo.heap.size, 0, none⟩ (.int .i64 t')).setCell ⟨wo.heap.size, 1, none⟩ (.slice A' n' ca)).setCell ⟨wo.heap.size, 2, none⟩ (.slice B' m' cb')) = W3 at *
        go_wp2_with fail
        refine (TN_run _ sb _ (by omega) (by omega) HT3.out).mono ?_
        rintro e W4 ⟨q, hq0, hq1, rfl, hs4, hg4⟩
        have hz4 := hg4.size
        have HT4 := Lib.hid hs4
        have HG4 := Lib.hid (grown_trans HG3.out hg4)
        have HO4 := Lib.hid (HO3.out.keep (hg4.block _ HO3.out.lt (by simp; omega)))
        have HLOW := Lib.hid (fun q (hq : q < wo.heap.size) (hn : q ≠ sb) => (hg4.block q (by omega) (by simpa using hn)).trans (HLOW3.out q hq hn))
        have HTR4 := Lib.hid (TAt.both (Q := fun b => wo.heap.size ≤ b) (fun q hq hP => hg4.block q hq (by simp; omega)) (fun q _ hP => by omega) _ _ _ _ _ HTR3.out)
        clear hs4 hg4 HLOW3 HTR3 HO3 HT3 HG3 o0 o1 o2 of0 of1 of2
        obtain ⟨o0, o1, o2⟩ := HO4.out.cs
        have hcb4 : W4.heap[cb]? = some (.cells #[v] 27 (0, 0)) := (HLOW.out cb (by omega) (by omega)).trans hCo.out.out
        have c4 : W4.cell? ⟨cb, 0, none⟩ = some v := cell_of_row _ _ 0 _ _ (0, 0) hcb4
        clear hcb4
        by_cases h11 : q = 11
        · subst h11
          have hba4 := balloc (bref W4) (.cells #[.bool false, .int .i64 0, .slice none 0 0, .slice none 0 0] 53)
          have hlowA : ∀ q, q < wo.heap.size → q ≠ sb → (W4.alloc (.cells #[.bool false, .int .i64 0, .slice none 0 0, .slice none 0 0] 53)).heap[q]? = wo.heap[q]? := fun q hq hn => (hba4.block q (by omega)).trans (HLOW.out q hq hn)
          have HLOWA := Lib.hid hlowA
          have HCSA := Lib.hid (own_keepG hcs (fun q hq hB hl => hlowA q hl (by omega)))
          have HTA := Lib.hid (HT4.out.below hba4)
          have HGA := Lib.hid (grown_trans HG4.out (grown_below hba4))
          have HTT := Lib.hid (show TAt (fun b => wo.heap.size ≤ b) 2 (W4.alloc (.cells #[.bool false, .int .i64 0, .slice none 0 0, .slice none 0 0] 53)) (.int .i64 0) (.slice none 0 0) (.slice none 0 0) (.mk 0 [] []) from ⟨rfl, by simp, by simp, ⟨none, 0, rfl, fun k hk => by simp at hk⟩, ⟨none, 0, rfl, fun k T hT => by simp at hT⟩⟩)
          have HSZ := Lib.hid (show wo.heap.size ≤ (W4.alloc (.cells #[.bool false, .int .i64 0, .slice none 0 0, .slice none 0 0] 53)).heap.size by rw [alloc_sz]; omega)
          have hcbA : (W4.alloc (.cells #[.bool false, .int .i64 0, .slice none 0 0, .slice none 0 0] 53)).heap[cb]? = some (.cells #[v] 27 (0, 0)) := (hlowA cb (by omega) (by omega)).trans hCo.out.out
          have HCBA := Lib.hid hcbA
          clear hlowA hba4 hcbA
          go_wp2_with (at_builtin; refine wpList_append_lies _ rfl _ _ 25 rfl (cb + 1) 53 i4 (.agg #[.bool false, .int .i64 0, .slice none 0 0, .slice none 0 0]) 4 64 Try.underlying25 hi4 hy0 hy1 hy2 rfl (by decide) _ ms.length cs rfl (by exact HCSA.out) ⟨_, 0, none⟩ 1 1 [.bool false, .int .i64 0, .slice none 0 0, .slice none 0 0] rfl rfl (cell_four_new _ _ _ _ _ _) (by intro u hu; simp at hu; rcases hu with rfl | rfl | rfl | rfl <;> rfl) (by omega) (by unfold maxLen; omega) (by omega) (by rw [alloc_sz]; omega) _ rfl ?_; intro g4 cap4 W5 hown4 hgrow4 hat4 hlt4; have hcb5 : W5.heap[cb]? = some (.cells #[v] 27 (0, 0)) := (hgrow4.block cb (by rw [alloc_sz]; omega) (fun e => by have := (HRO.out _ e.symm).1; omega)).trans HCBA.out; have s0 : W5.cell? ⟨cb, 0, none⟩ = some v := cell_of_row _ _ 0 _ _ (0, 0) hcb5; have sf : W5.frozen? ⟨cb, 0, none⟩ = false := by simp [World.frozen?, hcb5])
          have hpost := conf_app (x := (false, .mk 0 [] [])) hCo.out HG.out hsl hgcb HLOWA.out HTA.out HGA.out HSZ.out HCL.out hcn HTT.out ⟨fun h => (by cases h), fun _ => rfl⟩ hown4 hgrow4 hat4
          rw [hlen] at hpost
          have HP := Lib.hid hpost
          clear hpost hown4 hgrow4 hat4 hlt4 hcb5 s0 sf
          go_roundw
          case rel => exact ⟨k + 1, _, ms ++ [(false, .mk 0 [] [])], by omega, by go_num, by simp; omega, HP⟩
          case measure => simp [intOf]; omega
        · have hq11 : (q == 11) = false := by simpa using h11
          have hba4 := balloc (bref W4) (.cells #[.bool true, .int .i64 t', .slice A' n' ca, .slice B' m' cb'] 53)
          have hlowA : ∀ q, q < wo.heap.size → q ≠ sb → (W4.alloc (.cells #[.bool true, .int .i64 t', .slice A' n' ca, .slice B' m' cb'] 53)).heap[q]? = wo.heap[q]? := fun q hq hn => (hba4.block q (by omega)).trans (HLOW.out q hq hn)
          have HLOWA := Lib.hid hlowA
          have HCSA := Lib.hid (own_keepG hcs (fun q hq hB hl => hlowA q hl (by omega)))
          have HTA := Lib.hid (HT4.out.below hba4)
          have HGA := Lib.hid (grown_trans HG4.out (grown_below hba4))
          have HTT := Lib.hid (show TAt (fun b => wo.heap.size ≤ b) 2 (W4.alloc (.cells #[.bool true, .int .i64 t', .slice A' n' ca, .slice B' m' cb'] 53)) (.int .i64 t') (.slice A' n' ca) (.slice B' m' cb') (T) from HTR4.out.below hba4)
          have HSZ := Lib.hid (show wo.heap.size ≤ (W4.alloc (.cells #[.bool true, .int .i64 t', .slice A' n' ca, .slice B' m' cb'] 53)).heap.size by rw [alloc_sz]; omega)
          have hcbA : (W4.alloc (.cells #[.bool true, .int .i64 t', .slice A' n' ca, .slice B' m' cb'] 53)).heap[cb]? = some (.cells #[v] 27 (0, 0)) := (hlowA cb (by omega) (by omega)).trans hCo.out.out
          have HCBA := Lib.hid hcbA
          clear hlowA hba4 hcbA
          go_wp2_with (at_builtin; refine wpList_append_lies _ rfl _ _ 25 rfl (cb + 1) 53 i4 (.agg #[.bool false, .int .i64 0, .slice none 0 0, .slice none 0 0]) 4 64 Try.underlying25 hi4 hy0 hy1 hy2 rfl (by decide) _ ms.length cs rfl (by exact HCSA.out) ⟨_, 0, none⟩ 1 1 [.bool true, .int .i64 t', .slice A' n' ca, .slice B' m' cb'] rfl rfl (cell_four_new _ _ _ _ _ _) (by intro u hu; simp at hu; rcases hu with rfl | rfl | rfl | rfl <;> rfl) (by omega) (by unfold maxLen; omega) (by omega) (by rw [alloc_sz]; omega) _ rfl ?_; intro g4 cap4 W5 hown4 hgrow4 hat4 hlt4; have hcb5 : W5.heap[cb]? = some (.cells #[v] 27 (0, 0)) := (hgrow4.block cb (by rw [alloc_sz]; omega) (fun e => by have := (HRO.out _ e.symm).1; omega)).trans HCBA.out; have s0 : W5.cell? ⟨cb, 0, none⟩ = some v := cell_of_row _ _ 0 _ _ (0, 0) hcb5; have sf : W5.frozen? ⟨cb, 0, none⟩ = false := by simp [World.frozen?, hcb5])
          have hpost := conf_app (x := (true, T)) hCo.out HG.out hsl hgcb HLOWA.out HTA.out HGA.out HSZ.out HCL.out hcn HTT.out ⟨fun _ => HW.out, fun h => (by cases h)⟩ hown4 hgrow4 hat4
          rw [hlen] at hpost
          have HP := Lib.hid hpost
          clear hpost hown4 hgrow4 hat4 hlt4 hcb5 s0 sf
          go_roundw
          case rel => exact ⟨k + 1, _, ms ++ [(true, T)], by omega, by go_num, by simp; omega, HP⟩
          case measure => simp [intOf]; omega
      · go_wp2_with fail
        refine (group_run sb m k (by omega) (by omega) (by omega) _ HT1.out).mono ?_
        rintro e W2 ⟨x0, x1, x2, T, rfl, hT, hF, hs2, hg2⟩
        have hF2 : WF m 2 T := hF
        obtain ⟨t', A', n', ca, B', m', cb', rfl, rfl, rfl⟩ := hT.form
        have hz2 := hg2.size
        rw [alloc_sz] at hz2
        have hO2 := HX1.out.keep (hg2.block wo.heap.size HX1.out.lt (by simp; omega))
        have hO3 := ((hO2.set0 t').set1 (.slice A' n' ca)).set2 (.slice B' m' cb')
        obtain ⟨o0, o1, o2⟩ := hO2.cs
        have of0 := hO2.fr 0
        have of1 := hO2.fr 1
        have of2 := hO2.fr 2
        have farx : ∀ q, q ≠ wo.heap.size → (((W2.setCell ⟨wo.heap.size, 0, none⟩ (.int .i64 t')).setCell ⟨wo.heap.size, 1, none⟩ (.slice A' n' ca)).setCell ⟨wo.heap.size, 2, none⟩ (.slice B' m' cb')).heap[q]? = W2.heap[q]? := fun q hq =>
          (Below.heap_setCell _ _ _ _ (by simpa using hq)).trans ((Below.heap_setCell _ _ _ _ (by simpa using hq)).trans (Below.heap_setCell _ _ _ _ (by simpa using hq)))
        have hsz3 : (((W2.setCell ⟨wo.heap.size, 0, none⟩ (.int .i64 t')).setCell ⟨wo.heap.size, 1, none⟩ (.slice A' n' ca)).setCell ⟨wo.heap.size, 2, none⟩ (.slice B' m' cb')).heap.size = W2.heap.size := by simp only [World.setCell, Array.size_modify]
        have HT3 := Lib.hid (((hs2.setCell (p := ⟨wo.heap.size, 0, none⟩) (by show sb < wo.heap.size; omega) (.int .i64 t')).setCell (p := ⟨wo.heap.size, 1, none⟩) (by show sb < wo.heap.size; omega) (.slice A' n' ca)).setCell (p := ⟨wo.heap.size, 2, none⟩) (by show sb < wo.heap.size; omega) (.slice B' m' cb'))
        have HG3 := Lib.hid (gset (gset (gset (grown_trans hCo.out.grown (grown_trans (grown_below HBA.out) hg2)) (p := ⟨wo.heap.size, 0, none⟩) (by rw [HG.out]; show g ≤ wo.heap.size; omega) (.int .i64 t')) (p := ⟨wo.heap.size, 1, none⟩) (by rw [HG.out]; show g ≤ wo.heap.size; omega) (.slice A' n' ca)) (p := ⟨wo.heap.size, 2, none⟩) (by rw [HG.out]; show g ≤ wo.heap.size; omega) (.slice B' m' cb'))
        have HLOW3 := Lib.hid (fun q (hq : q < wo.heap.size) (hn : q ≠ sb) => (farx q (by omega)).trans ((hg2.block q (by rw [alloc_sz]; omega) (by simpa using hn)).trans (HBA.out.block q hq)))
        have HTR3 := Lib.hid (TAt.both (Q := fun b => wo.heap.size + 1 ≤ b) (fun q _ hP => farx q (by rw [alloc_sz] at hP; omega)) (fun q _ hP => by rw [alloc_sz] at hP; exact hP) _ _ _ _ _ hT)
        have HO3 := Lib.hid hO3
        have HW := Lib.hid hF2
        clear hT hF hF2 hs2 hg2 hO2 hO3 farx
        go_upto_region 14 with fail
        generalize (((W2.setCell ⟨wo.heap.size, 0, none⟩ (.int .i64 t')).setCell ⟨wo.heap.size, 1, none⟩ (.slice A' n' ca)).setCell ⟨wo.heap.size, 2, none⟩ (.slice B' m' cb')) = W3 at *
        go_wp2_with fail
        refine (TN_run _ sb _ (by omega) (by omega) HT3.out).mono ?_
        rintro e W4 ⟨q, hq0, hq1, rfl, hs4, hg4⟩
        have hz4 := hg4.size
        have HT4 := Lib.hid hs4
        have HG4 := Lib.hid (grown_trans HG3.out hg4)
        have HO4 := Lib.hid (HO3.out.keep (hg4.block _ HO3.out.lt (by simp; omega)))
        have HLOW := Lib.hid (fun q (hq : q < wo.heap.size) (hn : q ≠ sb) => (hg4.block q (by omega) (by simpa using hn)).trans (HLOW3.out q hq hn))
        have HTR4 := Lib.hid (TAt.both (Q := fun b => wo.heap.size ≤ b) (fun q hq hP => hg4.block q hq (by simp; omega)) (fun q _ hP => by omega) _ _ _ _ _ HTR3.out)
        clear hs4 hg4 HLOW3 HTR3 HO3 HT3 HG3 o0 o1 o2 of0 of1 of2
        obtain ⟨o0, o1, o2⟩ := HO4.out.cs
        have hcb4 : W4.heap[cb]? = some (.cells #[v] 27 (0, 0)) := (HLOW.out cb (by omega) (by omega)).trans hCo.out.out
        have c4 : W4.cell? ⟨cb, 0, none⟩ = some v := cell_of_row _ _ 0 _ _ (0, 0) hcb4
        clear hcb4
        by_cases h11 : q = 11
        · subst h11
          have hba4 := balloc (bref W4) (.cells #[.bool false, .int .i64 0, .slice none 0 0, .slice none 0 0] 53)
          have hlowA : ∀ q, q < wo.heap.size → q ≠ sb → (W4.alloc (.cells #[.bool false, .int .i64 0, .slice none 0 0, .slice none 0 0] 53)).heap[q]? = wo.heap[q]? := fun q hq hn => (hba4.block q (by omega)).trans (HLOW.out q hq hn)
          have HLOWA := Lib.hid hlowA
          have HCSA := Lib.hid (own_keepG hcs (fun q hq hB hl => hlowA q hl (by omega)))
          have HTA := Lib.hid (HT4.out.below hba4)
          have HGA := Lib.hid (grown_trans HG4.out (grown_below hba4))
          have HTT := Lib.hid (show TAt (fun b => wo.heap.size ≤ b) 2 (W4.alloc (.cells #[.bool false, .int .i64 0, .slice none 0 0, .slice none 0 0] 53)) (.int .i64 0) (.slice none 0 0) (.slice none 0 0) (.mk 0 [] []) from ⟨rfl, by simp, by simp, ⟨none, 0, rfl, fun k hk => by simp at hk⟩, ⟨none, 0, rfl, fun k T hT => by simp at hT⟩⟩)
          have HSZ := Lib.hid (show wo.heap.size ≤ (W4.alloc (.cells #[.bool false, .int .i64 0, .slice none 0 0, .slice none 0 0] 53)).heap.size by rw [alloc_sz]; omega)
          have hcbA : (W4.alloc (.cells #[.bool false, .int .i64 0, .slice none 0 0, .slice none 0 0] 53)).heap[cb]? = some (.cells #[v] 27 (0, 0)) := (hlowA cb (by omega) (by omega)).trans hCo.out.out
          have HCBA := Lib.hid hcbA
          clear hlowA hba4 hcbA
          go_wp2_with (at_builtin; refine wpList_append_lies _ rfl _ _ 25 rfl (cb + 1) 53 i4 (.agg #[.bool false, .int .i64 0, .slice none 0 0, .slice none 0 0]) 4 64 Try.underlying25 hi4 hy0 hy1 hy2 rfl (by decide) _ ms.length cs rfl (by exact HCSA.out) ⟨_, 0, none⟩ 1 1 [.bool false, .int .i64 0, .slice none 0 0, .slice none 0 0] rfl rfl (cell_four_new _ _ _ _ _ _) (by intro u hu; simp at hu; rcases hu with rfl | rfl | rfl | rfl <;> rfl) (by omega) (by unfold maxLen; omega) (by omega) (by rw [alloc_sz]; omega) _ rfl ?_; intro g4 cap4 W5 hown4 hgrow4 hat4 hlt4; have hcb5 : W5.heap[cb]? = some (.cells #[v] 27 (0, 0)) := (hgrow4.block cb (by rw [alloc_sz]; omega) (fun e => by have := (HRO.out _ e.symm).1; omega)).trans HCBA.out; have s0 : W5.cell? ⟨cb, 0, none⟩ = some v := cell_of_row _ _ 0 _ _ (0, 0) hcb5; have sf : W5.frozen? ⟨cb, 0, none⟩ = false := by simp [World.frozen?, hcb5])
          have hpost := conf_app (x := (false, .mk 0 [] [])) hCo.out HG.out hsl hgcb HLOWA.out HTA.out HGA.out HSZ.out HCL.out hcn HTT.out ⟨fun h => (by cases h), fun _ => rfl⟩ hown4 hgrow4 hat4
          rw [hlen] at hpost
          have HP := Lib.hid hpost
          clear hpost hown4 hgrow4 hat4 hlt4 hcb5 s0 sf
          go_roundw
          case rel => exact ⟨k + 1, _, ms ++ [(false, .mk 0 [] [])], by omega, by go_num, by simp; omega, HP⟩
          case measure => simp [intOf]; omega
        · have hq11 : (q == 11) = false := by simpa using h11
          have hba4 := balloc (bref W4) (.cells #[.bool true, .int .i64 t', .slice A' n' ca, .slice B' m' cb'] 53)
          have hlowA : ∀ q, q < wo.heap.size → q ≠ sb → (W4.alloc (.cells #[.bool true, .int .i64 t', .slice A' n' ca, .slice B' m' cb'] 53)).heap[q]? = wo.heap[q]? := fun q hq hn => (hba4.block q (by omega)).trans (HLOW.out q hq hn)
          have HLOWA := Lib.hid hlowA
          have HCSA := Lib.hid (own_keepG hcs (fun q hq hB hl => hlowA q hl (by omega)))
          have HTA := Lib.hid (HT4.out.below hba4)
          have HGA := Lib.hid (grown_trans HG4.out (grown_below hba4))
          have HTT := Lib.hid (show TAt (fun b => wo.heap.size ≤ b) 2 (W4.alloc (.cells #[.bool true, .int .i64 t', .slice A' n' ca, .slice B' m' cb'] 53)) (.int .i64 t') (.slice A' n' ca) (.slice B' m' cb') (T) from HTR4.out.below hba4)
          have HSZ := Lib.hid (show wo.heap.size ≤ (W4.alloc (.cells #[.bool true, .int .i64 t', .slice A' n' ca, .slice B' m' cb'] 53)).heap.size by rw [alloc_sz]; omega)
          have hcbA : (W4.alloc (.cells #[.bool true, .int .i64 t', .slice A' n' ca, .slice B' m' cb'] 53)).heap[cb]? = some (.cells #[v] 27 (0, 0)) := (hlowA cb (by omega) (by omega)).trans hCo.out.out
          have HCBA := Lib.hid hcbA
          clear hlowA hba4 hcbA
          go_wp2_with (at_builtin; refine wpList_append_lies _ rfl _ _ 25 rfl (cb + 1) 53 i4 (.agg #[.bool false, .int .i64 0, .slice none 0 0, .slice none 0 0]) 4 64 Try.underlying25 hi4 hy0 hy1 hy2 rfl (by decide) _ ms.length cs rfl (by exact HCSA.out) ⟨_, 0, none⟩ 1 1 [.bool true, .int .i64 t', .slice A' n' ca, .slice B' m' cb'] rfl rfl (cell_four_new _ _ _ _ _ _) (by intro u hu; simp at hu; rcases hu with rfl | rfl | rfl | rfl <;> rfl) (by omega) (by unfold maxLen; omega) (by omega) (by rw [alloc_sz]; omega) _ rfl ?_; intro g4 cap4 W5 hown4 hgrow4 hat4 hlt4; have hcb5 : W5.heap[cb]? = some (.cells #[v] 27 (0, 0)) := (hgrow4.block cb (by rw [alloc_sz]; omega) (fun e => by have := (HRO.out _ e.symm).1; omega)).trans HCBA.out; have s0 : W5.cell? ⟨cb, 0, none⟩ = some v := cell_of_row _ _ 0 _ _ (0, 0) hcb5; have sf : W5.frozen? ⟨cb, 0, none⟩ = false := by simp [World.frozen?, hcb5])
          have hpost := conf_app (x := (true, T)) hCo.out HG.out hsl hgcb HLOWA.out HTA.out HGA.out HSZ.out HCL.out hcn HTT.out ⟨fun _ => HW.out, fun h => (by cases h)⟩ hown4 hgrow4 hat4
          rw [hlen] at hpost
          have HP := Lib.hid hpost
          clear hpost hown4 hgrow4 hat4 hlt4 hcb5 s0 sf
          go_roundw
          case rel => exact ⟨k + 1, _, ms ++ [(true, T)], by omega, by go_num, by simp; omega, HP⟩
          case measure => simp [intOf]; omega
    · obtain rfl : k = m := by omega
      obtain ⟨Av, nv, cv, hv⟩ : ∃ A n c, v = .slice A n c := by
        obtain ⟨A, c, h1⟩ := (hCo.out.row.mems (P := fun _ => True) (fun _ _ => trivial)).slice
        exact ⟨A, _, c, h1⟩
      subst hv
      have co := hCo.out
      have c0 : wr.cell? ⟨cb, 0, none⟩ = some (.slice Av nv cv) := cell_of_row _ _ 0 _ _ (0, 0) co.out
      have z0 : wr.cell? ⟨g, 0, none⟩ = some (.slice none 0 0) := cell_of_row _ _ 0 _ _ (0, 0) co.res
      have zf : wr.frozen? ⟨g, 0, none⟩ = false := by simp [World.frozen?, co.res]
      have hset : (wr.setCell ⟨g, 0, none⟩ (.slice Av nv cv)).heap[g]? = some (.cells #[.slice Av nv cv] 27 (0, 0)) := by
        have h1 := co.res
        simp [World.setCell, Array.getElem?_modify, h1]
      have q0 : (wr.setCell ⟨g, 0, none⟩ (.slice Av nv cv)).cell? ⟨g, 0, none⟩ = some (.slice Av nv cv) := cell_of_row _ _ 0 _ _ (0, 0) hset
      have far : ∀ q, q ≠ g → (wr.setCell ⟨g, 0, none⟩ (.slice Av nv cv)).heap[q]? = wr.heap[q]? := fun q hq => Below.heap_setCell _ _ _ _ (by simpa using hq)
      have hgcb : g < cb := by omega
      have hms : MemsAt (fun b => w.heap.size ≤ b) 2 (wr.setCell ⟨g, 0, none⟩ (.slice Av nv cv)) (.slice Av nv cv) ms := (co.row.keep (fun q hq _ => far q (by omega))).mems (fun b hb => by have := HG.out; omega)
      have htp := co.tape.setCell (p := ⟨g, 0, none⟩) (by show sb < g; omega) (.slice Av nv cv)
      have hgr := gset co.grown (p := ⟨g, 0, none⟩) (by rw [HG.out]; simp) (.slice Av nv cv)
      have hok := co.ok
      rw [← hlen] at hok
      have HF := Lib.hid (show 1 ≤ ms.length ∧ ms.length ≤ n ∧ MemsAt (fun b => w.heap.size ≤ b) 2 (wr.setCell ⟨g, 0, none⟩ (.slice Av nv cv)) (.slice Av nv cv) ms ∧ MemsOk ms.length ms ∧ TapeOk (wr.setCell ⟨g, 0, none⟩ (.slice Av nv cv)) sb ∧ w.grownBy (wr.setCell ⟨g, 0, none⟩ (.slice Av nv cv)) (some sb) from ⟨by omega, by omega, hms, hok, htp, hgr⟩)
      have Q0 := Lib.hid q0
      clear hset q0 far hms htp hgr hok co
      go_wp2_with fail
      have q0 := Q0.out
      refine bodyPost_ret (v := .agg #[.slice Av nv cv]) ?_ rfl (by first | exact ⟨_, ms, rfl, HF.out⟩ | exact ⟨_, rfl, ms, HF.out⟩)
      simp [results, Try.results6, go_sem, q0]

end Go.Proofs.Ytfghnkgllmofgaa
