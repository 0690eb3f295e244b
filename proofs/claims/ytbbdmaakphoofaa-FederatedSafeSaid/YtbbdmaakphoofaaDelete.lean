/- The walks of the reference's Trust and Delete of deletion. -/
import Derived.Test.YtbbdmaakphoofaaLessRun
namespace Go.Proofs.Ytbbdmaakphoofaa
set_option linter.unusedVariables false
set_option linter.unusedSimpArgs false
open Go.RowKit

/-- Members in a row of its own from B on, with trusts in blocks of Q. -/
def GRow (Q : Nat → Prop) (B d : Nat) (W : World) (v : Value) (ms : List Mem) : Prop :=
  ∃ cs : List Value, W.ownsRow B 62 4 v ms.length cs ∧ ∀ k m, ms[k]? = some m → ∃ x0 x1 x2, cs[k * 4]? = some (.bool m.1) ∧ cs[k * 4 + 1]? = some x0 ∧ cs[k * 4 + 2]? = some x1 ∧ cs[k * 4 + 3]? = some x2 ∧ TAt (fun b => Q b ∧ v.ownBlock ≠ some b) d W x0 x1 x2 m.2
theorem GRow.nil (Q : Nat → Prop) (B d : Nat) (W : World) : GRow Q B d W (.slice none 0 0) [] := ⟨[], World.ownsRow_nil _ _ _ _, fun k T h => by simp at h⟩
theorem GRow.own {Q : Nat → Prop} {B d : Nat} {W : World} {v : Value} {ms : List Mem} (h : GRow Q B d W v ms) : ∀ j, v.ownBlock = some j → B ≤ j ∧ j < W.heap.size := by
  obtain ⟨cs, h1, _⟩ := h
  exact h1.lt
theorem GRow.keep {Q : Nat → Prop} {B d : Nat} {W W' : World} {v : Value} {ms : List Mem} (h : GRow Q B d W v ms) (hk : ∀ q, (Q q ∨ B ≤ q) → q < W.heap.size → W'.heap[q]? = W.heap[q]?) : GRow Q B d W' v ms := by
  obtain ⟨cs, h1, h2⟩ := h
  refine ⟨cs, own_keepG h1 (fun j _ hB hl => hk j (.inr hB) hl), fun k m hm => ?_⟩
  obtain ⟨x0, x1, x2, e0, e1, e2, e3, e4⟩ := h2 k m hm
  exact ⟨x0, x1, x2, e0, e1, e2, e3, e4.keep (fun q hq hP => hk q (.inl hP.1) hq)⟩
/-- One more member. -/
theorem GRow.append {Q : Nat → Prop} {B d : Nat} {WA W4 : World} {lv x0 x1 x2 : Value} {ms : List Mem} {m : Mem} {g4 cap4 : Nat} {cs : List Value}
    (hcl : ∀ k m, ms[k]? = some m → ∃ x0 x1 x2, cs[k * 4]? = some (.bool m.1) ∧ cs[k * 4 + 1]? = some x0 ∧ cs[k * 4 + 2]? = some x1 ∧ cs[k * 4 + 3]? = some x2 ∧ TAt (fun b => Q b ∧ lv.ownBlock ≠ some b) d WA x0 x1 x2 m.2) (hcn : cs.length = ms.length * 4)
    (hT : TAt (fun b => Q b ∧ lv.ownBlock ≠ some b) d WA x0 x1 x2 m.2)
    (hown4 : W4.ownsRow B 62 4 (.slice (some ⟨g4, 0, none⟩) (ms.length + 1) cap4) (ms.length + 1) (cs ++ [.bool m.1, x0, x1, x2])) (hg4 : WA.grownBy W4 lv.ownBlock) (hat4 : lv.ownBlock = some g4 ∨ g4 = WA.heap.size) :
    GRow Q B d W4 (.slice (some ⟨g4, 0, none⟩) (ms.length + 1) cap4) (ms ++ [m]) := by
  have up : ∀ {y0 y1 y2 : Value} {S : Tree}, TAt (fun b => Q b ∧ lv.ownBlock ≠ some b) d WA y0 y1 y2 S → TAt (fun b => Q b ∧ (Value.slice (some ⟨g4, 0, none⟩) (ms.length + 1) cap4).ownBlock ≠ some b) d W4 y0 y1 y2 S := fun h =>
    TAt.both (fun q hq hP => hg4.block q hq (fun e => hP.2 e.symm)) (fun q hq hP => ⟨hP.1, fun e => by
      have e' : g4 = q := by simpa [Value.ownBlock] using e
      rcases hat4 with hat | hat
      · exact hP.2 (by rw [hat, e'])
      · omega⟩) _ _ _ _ _ h
  refine ⟨cs ++ [.bool m.1, x0, x1, x2], by simpa using hown4, fun k S hS => ?_⟩
  rcases Nat.lt_or_ge k ms.length with hk | hk
  · rw [List.getElem?_append_left hk] at hS
    obtain ⟨y0, y1, y2, e0, e1, e2, e3, e4⟩ := hcl k S hS
    exact ⟨y0, y1, y2, by rw [List.getElem?_append_left (by omega)]; exact e0, by rw [List.getElem?_append_left (by omega)]; exact e1, by rw [List.getElem?_append_left (by omega)]; exact e2, by rw [List.getElem?_append_left (by omega)]; exact e3, up e4⟩
  · have hk2 : k = ms.length := by
      have := (List.getElem?_eq_some_iff.1 hS).1
      simp at this; omega
    subst hk2
    have hS' : S = m := by simpa using hS.symm
    subst hS'
    refine ⟨x0, x1, x2, ?_, ?_, ?_, ?_, up hT⟩
    · rw [List.getElem?_append_right (by omega)]; simp [hcn]
    · rw [List.getElem?_append_right (by omega), show ms.length * 4 + 1 - cs.length = 1 by omega]; rfl
    · rw [List.getElem?_append_right (by omega), show ms.length * 4 + 2 - cs.length = 2 by omega]; rfl
    · rw [List.getElem?_append_right (by omega), show ms.length * 4 + 3 - cs.length = 3 by omega]; rfl
theorem GRow.mems {Q : Nat → Prop} {B d : Nat} {W : World} {v : Value} {ms : List Mem} {P : Nat → Prop} (h : GRow Q B d W v ms) (hP : ∀ b, (Q b ∨ B ≤ b) → P b) : MemsAt P d W v ms := by
  obtain ⟨cs, h1, h2⟩ := h
  rcases h1.2 with ⟨hv, h0⟩ | ⟨g, cap, cur, hv, hb, _⟩
  · exact ⟨none, 0, by rw [hv, h0], fun k T hT => by have := (List.getElem?_eq_some_iff.1 hT).1; omega⟩
  · refine ⟨some ⟨g, 0, none⟩, cap, hv, fun k m hm => ?_⟩
    obtain ⟨x0, x1, x2, e0, e1, e2, e3, e4⟩ := h2 k m hm
    have c : ∀ j u, cs[j]? = some u → W.cell? ⟨g, 0 + j, none⟩ = some u := fun j u hu => by
      have := h1.cells (g := g) (by rw [hv]; rfl) j u hu
      rwa [Addr.add_lit] at this
    exact ⟨g, 0, x0, x1, x2, rfl, hP g (.inr hb), c _ _ e0, by rw [Nat.add_assoc]; exact c _ _ e1, by rw [Nat.add_assoc]; exact c _ _ e2, by rw [Nat.add_assoc]; exact c _ _ e3, e4.imp (fun q _ hq => hP q (.inl hq.1))⟩

set_option maxRecDepth 100000 in
set_option maxHeartbeats 2000000 in
theorem rdelT_run (P : Nat → Prop) (n : Int) (s k d : Nat) (T : Tree) (x0 x1 x2 : Value) (w : World) (hs : s < 1024) (h : TAt P (d + 1) w x0 x1 x2 T) (hWF : WF n (d + 1) T) :
    Calls Try.prog 56 #[.agg #[x0, x1, x2], .int .i64 (k : Int), .int .i64 (s : Int)] w fun e w' => ∃ y0 y1 y2, e = .returned (.agg #[y0, y1, y2]) ∧ TAt (fun b => w.heap.size ≤ b) (d + 1) w' y0 y1 y2 (delT s k (d + 1) T) ∧ Below w.heap.size w w' := by
  obtain ⟨t', A', n', ca, B', m', cb, rfl, rfl, rfl⟩ := h.form
  have hsv := Lib.hid (show setB (s : Int) = true from setB_iff.2 ⟨by omega, by omega⟩)
  have hb2 : Below w.heap.size w ((w.alloc (.cells #[.int .i64 t', .slice A' n' ca, .slice B' m' cb] 59)).alloc (.cells #[.int .i64 0, .slice none 0 0, .slice none 0 0] 59)) := balloc (balloc (bref w) _) _
  have k0 : ((w.alloc (.cells #[.int .i64 t', .slice A' n' ca, .slice B' m' cb] 59)).alloc (.cells #[.int .i64 0, .slice none 0 0, .slice none 0 0] 59)).heap[w.heap.size]? = some (.cells #[.int .i64 t', .slice A' n' ca, .slice B' m' cb] 59 (0, 0)) := alloc_on (alloc_at rfl)
  have k1 : OutAt ((w.alloc (.cells #[.int .i64 t', .slice A' n' ca, .slice B' m' cb] 59)).alloc (.cells #[.int .i64 0, .slice none 0 0, .slice none 0 0] 59)) (w.heap.size + 1) 0 (.slice none 0 0) (.slice none 0 0) := alloc_at (alloc_sz _ _)
  have HT := Lib.hid (h.below hb2)
  have HB := Lib.hid hb2
  have K0 := Lib.hid k0
  have K1 := Lib.hid k1
  have HW := Lib.hid hWF
  clear h hb2 k0 k1 hWF
  go_enter Try.func56, Try.ntmps56
  go_upto_region 1 with fail
  generalize ((w.alloc (.cells #[.int .i64 t', .slice A' n' ca, .slice B' m' cb] 59)).alloc (.cells #[.int .i64 0, .slice none 0 0, .slice none 0 0] 59)) = W1 at *
  generalize hg : w.heap.size = g at *
  have HG := Lib.hid hg
  clear hg
  have c0 : W1.cell? ⟨g, 0, none⟩ = some (.int .i64 t') := cell_of_row _ _ 0 _ _ (0, 0) K0.out
  have c1 : W1.cell? ⟨g, 1, none⟩ = some (.slice A' n' ca) := cell_of_row _ _ 1 _ _ (0, 0) K0.out
  have c2 : W1.cell? ⟨g, 2, none⟩ = some (.slice B' m' cb) := cell_of_row _ _ 2 _ _ (0, 0) K0.out
  have hol := K1.out.lt
  go_wp2_with fail
  refine (rsetValid_run _ _).mono ?_
  rintro e w2 ⟨rfl, rfl⟩
  rw [hsv.out]
  go_wp2_with fail
  refine (less_run s hs (d + 1) _ n T _ _ _ _ HT.out HW.out).mono ?_
  rintro e W2 ⟨y0, y1, y2, rfl, hT2, hb2⟩
  obtain ⟨t2, A2, n2, c2', B2, m2, c3, rfl, rfl, rfl⟩ := hT2.form
  have hthr := hT2.thr
  have hbA := balloc hb2 (.cells #[.int .i64 t2, .slice A2 n2 c2', .slice B2 m2 c3] 59)
  have k3 : (W2.alloc (.cells #[.int .i64 t2, .slice A2 n2 c2', .slice B2 m2 c3] 59)).heap[W2.heap.size]? = some (.cells #[.int .i64 t2, .slice A2 n2 c2', .slice B2 m2 c3] 59 (0, 0)) := alloc_at rfl
  have HT3 := Lib.hid (hT2.below (balloc (bref W2) (.cells #[.int .i64 t2, .slice A2 n2 c2', .slice B2 m2 c3] 59)))
  have HK3 := Lib.hid k3
  have HO3 := Lib.hid (K1.out.keep (hbA.block _ hol))
  have HB3 := Lib.hid (show Below w.heap.size w (W2.alloc (.cells #[.int .i64 t2, .slice A2 n2 c2', .slice B2 m2 c3] 59)) by
    have h1 := HB.out
    rw [← HG.out] at h1
    exact bstep h1 hbA)
  have HS3 := Lib.hid hbA.size
  clear hT2 hb2 hbA k3 c0 c1 c2
  go_upto_region 4 with fail
  generalize W2.alloc (.cells #[.int .i64 t2, .slice A2 n2 c2', .slice B2 m2 c3] 59) = W3 at *
  generalize W2.heap.size = r3 at *
  have r0 : W3.cell? ⟨r3, 0, none⟩ = some (.int .i64 t2) := cell_of_row _ _ 0 _ _ (0, 0) HK3.out
  have r1 : W3.cell? ⟨r3, 1, none⟩ = some (.slice A2 n2 c2') := cell_of_row _ _ 1 _ _ (0, 0) HK3.out
  have r2 : W3.cell? ⟨r3, 2, none⟩ = some (.slice B2 m2 c3) := cell_of_row _ _ 2 _ _ (0, 0) HK3.out
  obtain ⟨o0, o1, o2⟩ := HO3.out.cs
  have of0 := HO3.out.fr 0
  have of1 := HO3.out.fr 1
  have of2 := HO3.out.fr 2
  have hol3 := HO3.out.lt
  have hgl := HG.out
  have HBG := Lib.hid (fun (W : World) (h : Below w.heap.size w W) => (by rw [← HG.out]; exact h : Below g w W))
  cases hdd : deadT (lessT s (d + 1) T)
  · have hpos : ¬ t2 ≤ 0 := by unfold deadT at hdd; rw [hthr] at hdd; exact of_decide_eq_false hdd
    have HE := Lib.hid (show delT s k (d + 1) T = lessT s (d + 1) T by unfold delT; rw [hdd]; rfl)
    clear hdd hthr
    go_wp2_with fail
    refine bodyPost_ret (v := .agg #[.int .i64 t2, .slice A2 n2 c2', .slice B2 m2 c3]) ?_ rfl ⟨_, _, _, rfl, ?_, ?_⟩
    · simp [results, Try.results56, go_sem, o0, o1, o2]
    · rw [HE.out]
      exact TAt.both (fun q hq hP => (Below.heap_setCell _ _ _ _ (by simp; omega)).trans ((Below.heap_setCell _ _ _ _ (by simp; omega)).trans (Below.heap_setCell _ _ _ _ (by simp; omega)))) (fun q _ hP => by omega) _ _ _ _ _ HT3.out
    · exact HBG.out _ (bset (bset (bset HB3.out (p := ⟨g + 1, 0, none⟩) (by show w.heap.size ≤ g + 1; omega) _) (p := ⟨g + 1, 1, none⟩) (by show w.heap.size ≤ g + 1; omega) _) (p := ⟨g + 1, 2, none⟩) (by show w.heap.size ≤ g + 1; omega) _)
  · have hpos : t2 ≤ 0 := by unfold deadT at hdd; rw [hthr] at hdd; exact of_decide_eq_true hdd
    have HE := Lib.hid (show delT s k (d + 1) T = .mk 1 [(k : Int)] [] by unfold delT; rw [hdd]; rfl)
    clear hdd hthr
    go_wp2_with fail
    refine bodyPost_ret (v := .agg #[.int .i64 1, .slice (some ⟨W3.heap.size, 0, none⟩) 1 1, .slice none 0 0]) ?_ rfl ⟨_, _, _, rfl, ?_, ?_⟩
    · simp [results, Try.results56, go_sem, o0, o1, o2, hol3]
    · rw [HE.out]
      refine ⟨rfl, by simp, by simp, ⟨some ⟨W3.heap.size, 0, none⟩, 1, rfl, fun j hj => ⟨W3.heap.size, 0, rfl, by omega, ?_⟩⟩, ⟨none, 0, rfl, fun k T hT => by simp at hT⟩⟩
      obtain rfl : j = 0 := by simpa using hj
      refine (cell_of_row _ _ 0 #[.int .i64 (k : Int)] 3 (0, 0) ?_)
      have := heap_alloc_new (((W3.setCell ⟨g + 1, 0, none⟩ (.int .i64 1)).setCell ⟨g + 1, 1, none⟩ (.slice (some ⟨W3.heap.size, 0, none⟩) 1 1)).setCell ⟨g + 1, 2, none⟩ (.slice none 0 0)) (.cells #[.int .i64 (k : Int)] 3)
      simpa using this
    · exact (balloc (bset (bset (bset HB3.out (p := ⟨g + 1, 0, none⟩) (by show w.heap.size ≤ g + 1; omega) _) (p := ⟨g + 1, 1, none⟩) (by show w.heap.size ≤ g + 1; omega) _) (p := ⟨g + 1, 2, none⟩) (by show w.heap.size ≤ g + 1; omega) _) _)

theorem delM_take {s k : Nat} {ms : List Mem} {m : Mem} (h : ms[k]? = some m) : (delM s ms).take (k + 1) = (delM s ms).take k ++ [delOne s k m] := take_one (delM_get h)
theorem TAt.empty (P : Nat → Prop) (d : Nat) (w : World) (A B : Option Addr) (c c' : Nat) : TAt P (d + 1) w (.int .i64 0) (.slice A 0 c) (.slice B 0 c') (.mk 0 [] []) := ⟨rfl, by simp, by simp, ⟨A, c, rfl, fun k hk => by simp at hk⟩, ⟨B, c', rfl, fun k T hT => by simp at hT⟩⟩

set_option maxRecDepth 100000 in
set_option maxHeartbeats 8000000 in
theorem rdelete_run (P : Nat → Prop) (ms : List Mem) (v : Value) (s : Nat) (w : World) (hl : ms.length ≤ 10) (hs : s < 1024) (h : MemsAt P 2 w v ms) (hok : MemsOk ms.length ms) :
    Calls Try.prog 19 #[.agg #[v], .int .i64 (s : Int)] w fun e w' => ∃ v', e = .returned (.agg #[v']) ∧ MemsAt (fun b => w.heap.size ≤ b) 2 w' v' (delM s ms) ∧ Below w.heap.size w w' := by
  obtain ⟨A, c, rfl⟩ := h.slice
  have hsv := Lib.hid (show setB (s : Int) = true from setB_iff.2 ⟨by omega, by omega⟩)
  obtain ⟨i4, hi4, hy0, hy1, hy2⟩ := info_parts infoMember
  have hb3 : Below w.heap.size w (((w.alloc (.cells #[.slice A ms.length c] 27)).alloc (.cells #[.slice none 0 0] 27)).alloc (.cells #[.slice none 0 0] 27)) := balloc (balloc (balloc (bref w) _) _) _
  have k0 : (((w.alloc (.cells #[.slice A ms.length c] 27)).alloc (.cells #[.slice none 0 0] 27)).alloc (.cells #[.slice none 0 0] 27)).heap[w.heap.size]? = some (.cells #[.slice A ms.length c] 27 (0, 0)) := alloc_on (alloc_on (alloc_at rfl))
  have k1 : (((w.alloc (.cells #[.slice A ms.length c] 27)).alloc (.cells #[.slice none 0 0] 27)).alloc (.cells #[.slice none 0 0] 27)).heap[w.heap.size + 1]? = some (.cells #[.slice none 0 0] 27 (0, 0)) := alloc_on (alloc_at (alloc_sz _ _))
  have k2 : (((w.alloc (.cells #[.slice A ms.length c] 27)).alloc (.cells #[.slice none 0 0] 27)).alloc (.cells #[.slice none 0 0] 27)).heap[w.heap.size + 2]? = some (.cells #[.slice none 0 0] 27 (0, 0)) := alloc_at (by rw [alloc_sz, alloc_sz])
  have hsz : (((w.alloc (.cells #[.slice A ms.length c] 27)).alloc (.cells #[.slice none 0 0] 27)).alloc (.cells #[.slice none 0 0] 27)).heap.size = w.heap.size + 3 := by rw [alloc_sz, alloc_sz, alloc_sz]
  have H := Lib.hid ((h.both (Q := fun b => b < w.heap.size) (fun _ _ _ => rfl) (fun k hk _ => hk)).below hb3)
  have HB := Lib.hid hb3
  have K0 := Lib.hid k0
  have K1 := Lib.hid k1
  have K2 := Lib.hid k2
  have HOK := Lib.hid hok
  clear h hb3 k0 k1 k2 hok
  go_enter Try.func19, Try.ntmps19
  go_upto_region 1 with fail
  go_wp2_with fail
  refine (rsetValid_run _ _).mono ?_
  rintro e w2 ⟨rfl, rfl⟩
  rw [hsv.out]
  go_upto_region 4 with fail
  generalize (((w.alloc (.cells #[.slice A ms.length c] 27)).alloc (.cells #[.slice none 0 0] 27)).alloc (.cells #[.slice none 0 0] 27)) = W1 at *
  generalize hg : w.heap.size = g at *
  have HG := Lib.hid hg
  clear hg
  have c0 : W1.cell? ⟨g, 0, none⟩ = some (.slice A ms.length c) := cell_of_row _ _ 0 _ _ (0, 0) K0.out
  go_wp2_with fail
  clear c0
  go_loopw [15] (fun t W => ∃ (k : Nat) (v : Value), k ≤ ms.length ∧ t = .int .i64 k ∧ Hid (GRow (fun b => g + 3 ≤ b) (g + 3) 2 W v ((delM s ms).take k)) ∧ Hid (W.heap[g + 2]? = some (.cells #[v] 27 (0, 0))) ∧ Hid (W1.grownBy W (some (g + 2)))) (fun t _ => ms.length - (intOf t).toNat)
  case atStart => exact ⟨0, .slice none 0 0, by omega, rfl, Lib.hid (GRow.nil _ _ _ _), K2, Lib.hid (World.grownBy.refl _ _)⟩
  case round =>
    obtain ⟨k, v, hk, rfl, hRow, hOut, hGr⟩ := hrel
    have hwr := hGr.out.size
    by_cases hlt : k < ms.length
    · obtain ⟨m, hm⟩ : ∃ m, ms[k]? = some m := ⟨_, List.getElem?_eq_getElem hlt⟩
      obtain ⟨b, off, t, A1, n1, c1, A2, n2, c2, rfl, hP, hbl, e0, e1, e2, e3, hT⟩ := memBox H.out hm
      have lw := hGr.out.block b hbl (by simp; omega)
      have d0 := (World.cell?_of_block (a := ⟨b, off + k * 4, none⟩) lw).trans e0
      have d1 := (World.cell?_of_block (a := ⟨b, off + k * 4 + 1, none⟩) lw).trans e1
      have d2 := (World.cell?_of_block (a := ⟨b, off + k * 4 + 2, none⟩) lw).trans e2
      have d3 := (World.cell?_of_block (a := ⟨b, off + k * 4 + 3, none⟩) lw).trans e3
      have hTr := hT.keep (w' := wr) (fun q hq hP => hGr.out.block q hq (by simp; omega))
      have HTK := Lib.hid (delM_take (s := s) hm)
      have HTL := Lib.hid (show ((delM s ms).take k).length = k by rw [List.length_take, delM_len]; omega)
      generalize List.take k (delM s ms) = Lk at *
      have hmo := HOK.out m (List.mem_of_getElem? hm)
      have HM1 := Lib.hid hmo.1
      have HM2 := Lib.hid hmo.2
      have hbit := hasB_bit hs (show k < 10 by omega)
      have HDO := Lib.hid (show delOne s k m = if hasB (s : Int) (k : Int) then (false, .mk 0 [] []) else if m.1 then (true, delT s k 2 m.2) else m from rfl)
      generalize delOne s k m = mo at *
      obtain ⟨dec, T⟩ := m
      have hba := balloc (bref wr) (.cells #[.bool dec, .int .i64 t, .slice A1 n1 c1, .slice A2 n2 c2] 62)
      have kx : (wr.alloc (.cells #[.bool dec, .int .i64 t, .slice A1 n1 c1, .slice A2 n2 c2] 62)).heap[wr.heap.size]? = some (.cells #[.bool dec, .int .i64 t, .slice A1 n1 c1, .slice A2 n2 c2] 62 (0, 0)) := alloc_at rfl
      have HKX := Lib.hid kx
      have HTX := Lib.hid (hTr.below hba)
      have HGX := Lib.hid (grown_trans hGr.out (grown_below hba))
      have HLX := Lib.hid (fun q (hq : q < wr.heap.size) => hba.block q hq)
      have HRW := hRow
      have HOW := hOut
      have HROX := Lib.hid (fun q (hq : v.ownBlock = some q) => (hRow.out.own q hq))
      have hwl : g + 3 ≤ wr.heap.size := by omega
      have HSX := Lib.hid (alloc_sz wr (.cells #[.bool dec, .int .i64 t, .slice A1 n1 c1, .slice A2 n2 c2] 62))
      clear hba kx hTr hT hm hmo hRow hOut hGr lw e0 e1 e2 e3
      go_upto_region 7 with fail
      generalize wr.alloc (.cells #[.bool dec, .int .i64 t, .slice A1 n1 c1, .slice A2 n2 c2] 62) = W3 at *
      generalize hrq : wr.heap.size = r at *
      have HRQ := Lib.hid hrq
      clear hrq
      have r0 : W3.cell? ⟨r, 0, none⟩ = some (.bool dec) := cell_of_row _ _ 0 _ _ (0, 0) HKX.out
      have r1 : W3.cell? ⟨r, 1, none⟩ = some (.int .i64 t) := cell_of_row _ _ 1 _ _ (0, 0) HKX.out
      have r2 : W3.cell? ⟨r, 2, none⟩ = some (.slice A1 n1 c1) := cell_of_row _ _ 2 _ _ (0, 0) HKX.out
      have r3 : W3.cell? ⟨r, 3, none⟩ = some (.slice A2 n2 c2) := cell_of_row _ _ 3 _ _ (0, 0) HKX.out
      have rf : ∀ j, W3.frozen? ⟨r, j, none⟩ = false := fun j => by simp [World.frozen?, HKX.out]
      have rf0 := rf 0
      have rf1 := rf 1
      have rf2 := rf 2
      have rf3 := rf 3
      have hrl := cell_lt r0
      have hszx := HSX.out
      clear rf d0 d1 d2 d3
      cases hb : s.testBit k
      · rw [hb] at hbit
        rw [hbit] at HDO
        rw [if_neg (by simp)] at HDO
        cases dec
        · obtain rfl := HM2.out rfl
          rw [if_neg (show ¬ (false = true) by simp)] at HDO
          obtain ⟨ht, _, _, hN, hL⟩ := HTX.out.parts
          obtain ⟨A3, c3, hv1⟩ := hN.slice
          obtain ⟨A4, c5, hv2⟩ := hL.slice
          cases ht
          cases hv1
          cases hv2
          clear hN hL
          go_wp2_with fail
          refine (rhas_run _ _ _).mono ?_
          rintro e w2 ⟨rfl, rfl⟩
          rw [hbit]
          go_upto_region 11 with fail
          have K6 := Lib.hid (show W3.heap[r]? = some (.cells #[.bool false, .int .i64 0, .slice A1 0 c1, .slice A2 0 c2] 62 (0, 0)) from HKX.out)
          have L6 := HLX
          clear hszx
          have HT6 := Lib.hid (TAt.empty (fun b => g + 3 ≤ b ∧ v.ownBlock ≠ some b) 1 W3 A1 A2 c1 c2)
          have HG6 := HGX
          have HMO := HDO
          clear r0 r1 r2 r3 rf0 rf1 rf2 rf3
          have x0 : W3.cell? ⟨r, 0, none⟩ = some (.bool false) := cell_of_row _ _ 0 _ _ (0, 0) K6.out
          have x1 : W3.cell? ⟨r, 1, none⟩ = some (.int .i64 0) := cell_of_row _ _ 1 _ _ (0, 0) K6.out
          have x2 : W3.cell? ⟨r, 2, none⟩ = some (.slice A1 0 c1) := cell_of_row _ _ 2 _ _ (0, 0) K6.out
          have x3 : W3.cell? ⟨r, 3, none⟩ = some (.slice A2 0 c2) := cell_of_row _ _ 3 _ _ (0, 0) K6.out
          have hcb6 : W3.heap[g + 2]? = some (.cells #[v] 27 (0, 0)) := (L6.out (g + 2) (by omega)).trans HOW.out
          have q2 : W3.cell? ⟨g + 2, 0, none⟩ = some v := cell_of_row _ _ 0 _ _ (0, 0) hcb6
          have HCB6 := Lib.hid hcb6
          have hR6 := HRW.out.keep (W' := W3) (fun q _ hq => L6.out q (by rw [← HRQ.out]; exact hq))
          obtain ⟨cs, hcs, hcl⟩ := hR6
          have hcn := hcs.1
          have HCSA := Lib.hid (hcs.alloc (.cells #[.bool false, .int .i64 0, .slice A1 0 c1, .slice A2 0 c2] 62))
          have HNEW := Lib.hid (cell_four_new W3 (.bool false) (.int .i64 0) (.slice A1 0 c1) (.slice A2 0 c2) 62)
          have HBA4 := Lib.hid (balloc (bref W3) (.cells #[.bool false, .int .i64 0, .slice A1 0 c1, .slice A2 0 c2] 62))
          have HSZ4 := Lib.hid (alloc_sz W3 (.cells #[.bool false, .int .i64 0, .slice A1 0 c1, .slice A2 0 c2] 62))
          have HCL := Lib.hid hcl
          have hz6 : r < W3.heap.size := cell_lt x0
          clear hcs hcl hcb6
          go_wp2_with (at_builtin; refine wpList_append_lies _ rfl _ _ 25 rfl (g + 3) 62 i4 (.agg #[.bool false, .int .i64 0, .slice none 0 0, .slice none 0 0]) 4 64 Try.underlying25 hi4 hy0 hy1 hy2 rfl (by decide) _ Lk.length cs rfl (by exact HCSA.out) ⟨_, 0, none⟩ 1 1 [.bool false, .int .i64 0, .slice A1 0 c1, .slice A2 0 c2] rfl rfl (by exact HNEW.out) (by intro u hu; simp at hu; rcases hu with rfl | rfl | rfl | rfl <;> rfl) (by omega) (by have := HTL.out; unfold maxLen; omega) (by have := HTL.out; omega) (by have := HSZ4.out; omega) _ rfl ?_; intro g4 cap4 W7 hown4 hgrow4 hat4 hlt4; have hcb5 : W7.heap[g + 2]? = some (.cells #[v] 27 (0, 0)) := (hgrow4.block (g + 2) (by have := HSZ4.out; omega) (fun e => by have := (HROX.out _ e.symm).1; omega)).trans ((HBA4.out.block (g + 2) (by omega)).trans HCB6.out); have s0 : W7.cell? ⟨g + 2, 0, none⟩ = some v := cell_of_row _ _ 0 _ _ (0, 0) hcb5; have sf : W7.frozen? ⟨g + 2, 0, none⟩ = false := by simp [World.frozen?, hcb5])
          have hgB : (W3.alloc (.cells #[.bool false, .int .i64 0, .slice A1 0 c1, .slice A2 0 c2] 62)).grownBy W7 v.ownBlock := ⟨hgrow4.os, hgrow4.tape, hgrow4.output, hgrow4.size, hgrow4.block⟩
          have hrow5 := GRow.append (Q := fun b => g + 3 ≤ b) (m := (false, .mk 0 [] [])) (WA := W3.alloc (.cells #[.bool false, .int .i64 0, .slice A1 0 c1, .slice A2 0 c2] 62)) (fun k m hm => by
              obtain ⟨z0, z1, z2, e0, e1, e2, e3, e4⟩ := HCL.out k m hm
              exact ⟨z0, z1, z2, e0, e1, e2, e3, e4.below HBA4.out⟩) hcn (HT6.out.below HBA4.out) hown4 hgB hat4
          rw [← HMO.out, ← HTK.out] at hrow5
          have HROW5 := Lib.hid (hrow5.keep (W' := W7.setCell ⟨g + 2, 0, none⟩ (.slice (some ⟨g4, 0, none⟩) (Lk.length + 1) cap4)) (fun q hq _ => Below.heap_setCell _ _ _ _ (by simp; omega)))
          have hset5 : (W7.setCell ⟨g + 2, 0, none⟩ (.slice (some ⟨g4, 0, none⟩) (Lk.length + 1) cap4)).heap[g + 2]? = some (.cells #[.slice (some ⟨g4, 0, none⟩) (Lk.length + 1) cap4] 27 (0, 0)) := by
            simp [World.setCell, Array.getElem?_modify, hcb5]
          have HSET5 := Lib.hid hset5
          have HGR5 := Lib.hid (grown_at (gown (grown_trans HG6.out (grown_below HBA4.out)) hgB (fun q hq => by have := (HROX.out q hq).1; omega)) 0 (.slice (some ⟨g4, 0, none⟩) (Lk.length + 1) cap4))
          clear hown4 hgrow4 hat4 hlt4 hcb5 s0 sf hgB hrow5 hset5
          go_roundw
          case rel => exact ⟨k + 1, _, by omega, by go_num, HROW5, HSET5, HGR5⟩
          case measure => simp [intOf]; omega
        · have HW := Lib.hid (HM1.out rfl)
          rw [if_pos rfl] at HDO
          have hk0 : (0 : Int) ≤ (k : Int) := by omega
          go_wp2_with fail
          refine (rhas_run _ _ _).mono ?_
          rintro e w2 ⟨rfl, rfl⟩
          rw [hbit]
          go_wp2_with fail
          refine (rdelT_run _ ms.length s k 1 T _ _ _ _ hs HTX.out HW.out).mono ?_
          rintro e W5 ⟨y0, y1, y2, rfl, hT5, hb5⟩
          obtain ⟨t6, B1, n6, c6, B2, m6, c7, rfl, rfl, rfl⟩ := hT5.form
          have z0 := (hb5.cell hrl).trans r0
          have kz := (hb5.block r hrl).trans HKX.out
          have zf1 : W5.frozen? ⟨r, 1, none⟩ = false := by simp [World.frozen?, kz]
          have zf2 : W5.frozen? ⟨r, 2, none⟩ = false := by simp [World.frozen?, kz]
          have zf3 : W5.frozen? ⟨r, 3, none⟩ = false := by simp [World.frozen?, kz]
          have z1 : W5.cell? ⟨r, 1, none⟩ = some (.int .i64 t) := cell_of_row _ _ 1 _ _ (0, 0) kz
          have z2 : W5.cell? ⟨r, 2, none⟩ = some (.slice A1 n1 c1) := cell_of_row _ _ 2 _ _ (0, 0) kz
          have z3 : W5.cell? ⟨r, 3, none⟩ = some (.slice A2 n2 c2) := cell_of_row _ _ 3 _ _ (0, 0) kz
          have hz5 : r < W5.heap.size := cell_lt z0
          have K6 := Lib.hid (show (((W5.setCell ⟨r, 1, none⟩ (.int .i64 t6)).setCell ⟨r, 2, none⟩ (.slice B1 n6 c6)).setCell ⟨r, 3, none⟩ (.slice B2 m6 c7)).heap[r]? = some (.cells #[.bool true, .int .i64 t6, .slice B1 n6 c6, .slice B2 m6 c7] 62 (0, 0)) by
            simp [World.setCell, Array.getElem?_modify, kz])
          have l6 : ∀ q, q ≠ r → (((W5.setCell ⟨r, 1, none⟩ (.int .i64 t6)).setCell ⟨r, 2, none⟩ (.slice B1 n6 c6)).setCell ⟨r, 3, none⟩ (.slice B2 m6 c7)).heap[q]? = W5.heap[q]? := fun q hq =>
            (Below.heap_setCell _ _ _ _ (by simpa using hq)).trans ((Below.heap_setCell _ _ _ _ (by simpa using hq)).trans (Below.heap_setCell _ _ _ _ (by simpa using hq)))
          have L6 := Lib.hid (fun q (hq : q < r) => (l6 q (by omega)).trans ((hb5.block q (by omega)).trans (HLX.out q (by omega))))
          have HT6 := Lib.hid (TAt.both (Q := fun b => g + 3 ≤ b ∧ v.ownBlock ≠ some b) (w' := (((W5.setCell ⟨r, 1, none⟩ (.int .i64 t6)).setCell ⟨r, 2, none⟩ (.slice B1 n6 c6)).setCell ⟨r, 3, none⟩ (.slice B2 m6 c7))) (fun q hq hP => l6 q (by omega)) (fun q _ hP => ⟨by omega, fun e => by have := (HROX.out q e).2; have := HRQ.out; omega⟩) _ _ _ _ _ hT5)
          have HG6 := Lib.hid (gset (gset (gset (grown_trans HGX.out (grown_below hb5)) (p := ⟨r, 1, none⟩) (by show W1.heap.size ≤ r; omega) (.int .i64 t6)) (p := ⟨r, 2, none⟩) (by show W1.heap.size ≤ r; omega) (.slice B1 n6 c6)) (p := ⟨r, 3, none⟩) (by show W1.heap.size ≤ r; omega) (.slice B2 m6 c7))
          obtain ⟨T6, hT6⟩ : ∃ T6, delT s k 2 T = T6 := ⟨_, rfl⟩
          rw [hT6] at HDO HT6
          have HMO := HDO
          clear hT5 l6 hb5 kz z0 hT6
          go_upto_region 11 with fail
          generalize (((W5.setCell ⟨r, 1, none⟩ (.int .i64 t6)).setCell ⟨r, 2, none⟩ (.slice B1 n6 c6)).setCell ⟨r, 3, none⟩ (.slice B2 m6 c7)) = W6 at *
          clear z1 z2 z3 zf1 zf2 zf3 r0 r1 r2 r3 rf0 rf1 rf2 rf3
          have x0 : W6.cell? ⟨r, 0, none⟩ = some (.bool true) := cell_of_row _ _ 0 _ _ (0, 0) K6.out
          have x1 : W6.cell? ⟨r, 1, none⟩ = some (.int .i64 t6) := cell_of_row _ _ 1 _ _ (0, 0) K6.out
          have x2 : W6.cell? ⟨r, 2, none⟩ = some (.slice B1 n6 c6) := cell_of_row _ _ 2 _ _ (0, 0) K6.out
          have x3 : W6.cell? ⟨r, 3, none⟩ = some (.slice B2 m6 c7) := cell_of_row _ _ 3 _ _ (0, 0) K6.out
          have hcb6 : W6.heap[g + 2]? = some (.cells #[v] 27 (0, 0)) := (L6.out (g + 2) (by omega)).trans HOW.out
          have q2 : W6.cell? ⟨g + 2, 0, none⟩ = some v := cell_of_row _ _ 0 _ _ (0, 0) hcb6
          have HCB6 := Lib.hid hcb6
          have hR6 := HRW.out.keep (W' := W6) (fun q _ hq => L6.out q (by rw [← HRQ.out]; exact hq))
          obtain ⟨cs, hcs, hcl⟩ := hR6
          have hcn := hcs.1
          have HCSA := Lib.hid (hcs.alloc (.cells #[.bool true, .int .i64 t6, .slice B1 n6 c6, .slice B2 m6 c7] 62))
          have HNEW := Lib.hid (cell_four_new W6 (.bool true) (.int .i64 t6) (.slice B1 n6 c6) (.slice B2 m6 c7) 62)
          have HBA4 := Lib.hid (balloc (bref W6) (.cells #[.bool true, .int .i64 t6, .slice B1 n6 c6, .slice B2 m6 c7] 62))
          have HSZ4 := Lib.hid (alloc_sz W6 (.cells #[.bool true, .int .i64 t6, .slice B1 n6 c6, .slice B2 m6 c7] 62))
          have HCL := Lib.hid hcl
          have hz6 : r < W6.heap.size := cell_lt x0
          clear hcs hcl hcb6
          go_wp2_with (at_builtin; refine wpList_append_lies _ rfl _ _ 25 rfl (g + 3) 62 i4 (.agg #[.bool false, .int .i64 0, .slice none 0 0, .slice none 0 0]) 4 64 Try.underlying25 hi4 hy0 hy1 hy2 rfl (by decide) _ Lk.length cs rfl (by exact HCSA.out) ⟨_, 0, none⟩ 1 1 [.bool true, .int .i64 t6, .slice B1 n6 c6, .slice B2 m6 c7] rfl rfl (by exact HNEW.out) (by intro u hu; simp at hu; rcases hu with rfl | rfl | rfl | rfl <;> rfl) (by omega) (by have := HTL.out; unfold maxLen; omega) (by have := HTL.out; omega) (by have := HSZ4.out; omega) _ rfl ?_; intro g4 cap4 W7 hown4 hgrow4 hat4 hlt4; have hcb5 : W7.heap[g + 2]? = some (.cells #[v] 27 (0, 0)) := (hgrow4.block (g + 2) (by have := HSZ4.out; omega) (fun e => by have := (HROX.out _ e.symm).1; omega)).trans ((HBA4.out.block (g + 2) (by omega)).trans HCB6.out); have s0 : W7.cell? ⟨g + 2, 0, none⟩ = some v := cell_of_row _ _ 0 _ _ (0, 0) hcb5; have sf : W7.frozen? ⟨g + 2, 0, none⟩ = false := by simp [World.frozen?, hcb5])
          have hgB : (W6.alloc (.cells #[.bool true, .int .i64 t6, .slice B1 n6 c6, .slice B2 m6 c7] 62)).grownBy W7 v.ownBlock := ⟨hgrow4.os, hgrow4.tape, hgrow4.output, hgrow4.size, hgrow4.block⟩
          have hrow5 := GRow.append (Q := fun b => g + 3 ≤ b) (m := (true, T6)) (WA := W6.alloc (.cells #[.bool true, .int .i64 t6, .slice B1 n6 c6, .slice B2 m6 c7] 62)) (fun k m hm => by
              obtain ⟨z0, z1, z2, e0, e1, e2, e3, e4⟩ := HCL.out k m hm
              exact ⟨z0, z1, z2, e0, e1, e2, e3, e4.below HBA4.out⟩) hcn (HT6.out.below HBA4.out) hown4 hgB hat4
          rw [← HMO.out, ← HTK.out] at hrow5
          have HROW5 := Lib.hid (hrow5.keep (W' := W7.setCell ⟨g + 2, 0, none⟩ (.slice (some ⟨g4, 0, none⟩) (Lk.length + 1) cap4)) (fun q hq _ => Below.heap_setCell _ _ _ _ (by simp; omega)))
          have hset5 : (W7.setCell ⟨g + 2, 0, none⟩ (.slice (some ⟨g4, 0, none⟩) (Lk.length + 1) cap4)).heap[g + 2]? = some (.cells #[.slice (some ⟨g4, 0, none⟩) (Lk.length + 1) cap4] 27 (0, 0)) := by
            simp [World.setCell, Array.getElem?_modify, hcb5]
          have HSET5 := Lib.hid hset5
          have HGR5 := Lib.hid (grown_at (gown (grown_trans HG6.out (grown_below HBA4.out)) hgB (fun q hq => by have := (HROX.out q hq).1; omega)) 0 (.slice (some ⟨g4, 0, none⟩) (Lk.length + 1) cap4))
          clear hown4 hgrow4 hat4 hlt4 hcb5 s0 sf hgB hrow5 hset5
          go_roundw
          case rel => exact ⟨k + 1, _, by omega, by go_num, HROW5, HSET5, HGR5⟩
          case measure => simp [intOf]; omega
      · rw [hb] at hbit
        rw [hbit] at HDO
        rw [if_pos rfl] at HDO
        go_wp2_with fail
        refine (rhas_run _ _ _).mono ?_
        rintro e w2 ⟨rfl, rfl⟩
        rw [hbit]
        have K6 := Lib.hid (show ((((W3.setCell ⟨r, 0, none⟩ (.bool false)).setCell ⟨r, 1, none⟩ (.int .i64 0)).setCell ⟨r, 2, none⟩ (.slice none 0 0)).setCell ⟨r, 3, none⟩ (.slice none 0 0)).heap[r]? = some (.cells #[.bool false, .int .i64 0, .slice none 0 0, .slice none 0 0] 62 (0, 0)) by
          simp [World.setCell, Array.getElem?_modify, HKX.out])
        have l6 : ∀ q, q ≠ r → ((((W3.setCell ⟨r, 0, none⟩ (.bool false)).setCell ⟨r, 1, none⟩ (.int .i64 0)).setCell ⟨r, 2, none⟩ (.slice none 0 0)).setCell ⟨r, 3, none⟩ (.slice none 0 0)).heap[q]? = W3.heap[q]? := fun q hq =>
          (Below.heap_setCell _ _ _ _ (by simpa using hq)).trans ((Below.heap_setCell _ _ _ _ (by simpa using hq)).trans ((Below.heap_setCell _ _ _ _ (by simpa using hq)).trans (Below.heap_setCell _ _ _ _ (by simpa using hq))))
        have L6 := Lib.hid (fun q (hq : q < r) => (l6 q (by omega)).trans (HLX.out q hq))
        have HG6 := Lib.hid (gset (gset (gset (gset HGX.out (p := ⟨r, 0, none⟩) (by show W1.heap.size ≤ r; omega) (.bool false)) (p := ⟨r, 1, none⟩) (by show W1.heap.size ≤ r; omega) (.int .i64 0)) (p := ⟨r, 2, none⟩) (by show W1.heap.size ≤ r; omega) (.slice none 0 0)) (p := ⟨r, 3, none⟩) (by show W1.heap.size ≤ r; omega) (.slice none 0 0))
        have HMO := HDO
        clear l6
        go_upto_region 11 with fail
        generalize ((((W3.setCell ⟨r, 0, none⟩ (.bool false)).setCell ⟨r, 1, none⟩ (.int .i64 0)).setCell ⟨r, 2, none⟩ (.slice none 0 0)).setCell ⟨r, 3, none⟩ (.slice none 0 0)) = W6 at *
        have HT6 := Lib.hid (TAt.empty (fun b => g + 3 ≤ b ∧ v.ownBlock ≠ some b) 1 W6 none none 0 0)
        clear r0 r1 r2 r3 rf0 rf1 rf2 rf3
        have x0 : W6.cell? ⟨r, 0, none⟩ = some (.bool false) := cell_of_row _ _ 0 _ _ (0, 0) K6.out
        have x1 : W6.cell? ⟨r, 1, none⟩ = some (.int .i64 0) := cell_of_row _ _ 1 _ _ (0, 0) K6.out
        have x2 : W6.cell? ⟨r, 2, none⟩ = some (.slice none 0 0) := cell_of_row _ _ 2 _ _ (0, 0) K6.out
        have x3 : W6.cell? ⟨r, 3, none⟩ = some (.slice none 0 0) := cell_of_row _ _ 3 _ _ (0, 0) K6.out
        have hcb6 : W6.heap[g + 2]? = some (.cells #[v] 27 (0, 0)) := (L6.out (g + 2) (by omega)).trans HOW.out
        have q2 : W6.cell? ⟨g + 2, 0, none⟩ = some v := cell_of_row _ _ 0 _ _ (0, 0) hcb6
        have HCB6 := Lib.hid hcb6
        have hR6 := HRW.out.keep (W' := W6) (fun q _ hq => L6.out q (by rw [← HRQ.out]; exact hq))
        obtain ⟨cs, hcs, hcl⟩ := hR6
        have hcn := hcs.1
        have HCSA := Lib.hid (hcs.alloc (.cells #[.bool false, .int .i64 0, .slice none 0 0, .slice none 0 0] 62))
        have HNEW := Lib.hid (cell_four_new W6 (.bool false) (.int .i64 0) (.slice none 0 0) (.slice none 0 0) 62)
        have HBA4 := Lib.hid (balloc (bref W6) (.cells #[.bool false, .int .i64 0, .slice none 0 0, .slice none 0 0] 62))
        have HSZ4 := Lib.hid (alloc_sz W6 (.cells #[.bool false, .int .i64 0, .slice none 0 0, .slice none 0 0] 62))
        have HCL := Lib.hid hcl
        have hz6 : r < W6.heap.size := cell_lt x0
        clear hcs hcl hcb6
        go_wp2_with (at_builtin; refine wpList_append_lies _ rfl _ _ 25 rfl (g + 3) 62 i4 (.agg #[.bool false, .int .i64 0, .slice none 0 0, .slice none 0 0]) 4 64 Try.underlying25 hi4 hy0 hy1 hy2 rfl (by decide) _ Lk.length cs rfl (by exact HCSA.out) ⟨_, 0, none⟩ 1 1 [.bool false, .int .i64 0, .slice none 0 0, .slice none 0 0] rfl rfl (by exact HNEW.out) (by intro u hu; simp at hu; rcases hu with rfl | rfl | rfl | rfl <;> rfl) (by omega) (by have := HTL.out; unfold maxLen; omega) (by have := HTL.out; omega) (by have := HSZ4.out; omega) _ rfl ?_; intro g4 cap4 W7 hown4 hgrow4 hat4 hlt4; have hcb5 : W7.heap[g + 2]? = some (.cells #[v] 27 (0, 0)) := (hgrow4.block (g + 2) (by have := HSZ4.out; omega) (fun e => by have := (HROX.out _ e.symm).1; omega)).trans ((HBA4.out.block (g + 2) (by omega)).trans HCB6.out); have s0 : W7.cell? ⟨g + 2, 0, none⟩ = some v := cell_of_row _ _ 0 _ _ (0, 0) hcb5; have sf : W7.frozen? ⟨g + 2, 0, none⟩ = false := by simp [World.frozen?, hcb5])
        have hgB : (W6.alloc (.cells #[.bool false, .int .i64 0, .slice none 0 0, .slice none 0 0] 62)).grownBy W7 v.ownBlock := ⟨hgrow4.os, hgrow4.tape, hgrow4.output, hgrow4.size, hgrow4.block⟩
        have hrow5 := GRow.append (Q := fun b => g + 3 ≤ b) (m := (false, .mk 0 [] [])) (WA := W6.alloc (.cells #[.bool false, .int .i64 0, .slice none 0 0, .slice none 0 0] 62)) (fun k m hm => by
            obtain ⟨z0, z1, z2, e0, e1, e2, e3, e4⟩ := HCL.out k m hm
            exact ⟨z0, z1, z2, e0, e1, e2, e3, e4.below HBA4.out⟩) hcn (HT6.out.below HBA4.out) hown4 hgB hat4
        rw [← HMO.out, ← HTK.out] at hrow5
        have HROW5 := Lib.hid (hrow5.keep (W' := W7.setCell ⟨g + 2, 0, none⟩ (.slice (some ⟨g4, 0, none⟩) (Lk.length + 1) cap4)) (fun q hq _ => Below.heap_setCell _ _ _ _ (by simp; omega)))
        have hset5 : (W7.setCell ⟨g + 2, 0, none⟩ (.slice (some ⟨g4, 0, none⟩) (Lk.length + 1) cap4)).heap[g + 2]? = some (.cells #[.slice (some ⟨g4, 0, none⟩) (Lk.length + 1) cap4] 27 (0, 0)) := by
          simp [World.setCell, Array.getElem?_modify, hcb5]
        have HSET5 := Lib.hid hset5
        have HGR5 := Lib.hid (grown_at (gown (grown_trans HG6.out (grown_below HBA4.out)) hgB (fun q hq => by have := (HROX.out q hq).1; omega)) 0 (.slice (some ⟨g4, 0, none⟩) (Lk.length + 1) cap4))
        clear hown4 hgrow4 hat4 hlt4 hcb5 s0 sf hgB hrow5 hset5
        go_roundw
        case rel => exact ⟨k + 1, _, by omega, by go_num, HROW5, HSET5, HGR5⟩
        case measure => simp [intOf]; omega
    · obtain rfl : k = ms.length := by omega
      have HLE := Lib.hid (show (delM s ms).take ms.length = delM s ms by rw [← delM_len s ms, List.take_length])
      have hrl : GRow (fun b => g + 3 ≤ b) (g + 3) 2 wr v (delM s ms) := by have h1 := hRow.out; rw [HLE.out] at h1; exact h1
      have hvs : ∃ A c, v = .slice A (delM s ms).length c := (hrl.mems (P := fun _ => True) (fun _ _ => trivial)).slice
      obtain ⟨Av, cv, rfl⟩ := hvs
      generalize (delM s ms).length = nv at *
      have c2 : wr.cell? ⟨g + 2, 0, none⟩ = some (.slice Av nv cv) := cell_of_row _ _ 0 _ _ (0, 0) hOut.out
      have hres : wr.heap[g + 1]? = some (.cells #[.slice none 0 0] 27 (0, 0)) := (hGr.out.block (g + 1) (by omega) (by simp)).trans K1.out
      have z0 : wr.cell? ⟨g + 1, 0, none⟩ = some (.slice none 0 0) := cell_of_row _ _ 0 _ _ (0, 0) hres
      have zf : wr.frozen? ⟨g + 1, 0, none⟩ = false := by simp [World.frozen?, hres]
      have hset : (wr.setCell ⟨g + 1, 0, none⟩ (.slice Av nv cv)).heap[g + 1]? = some (.cells #[.slice Av nv cv] 27 (0, 0)) := by
        simp [World.setCell, Array.getElem?_modify, hres]
      have q0 : (wr.setCell ⟨g + 1, 0, none⟩ (.slice Av nv cv)).cell? ⟨g + 1, 0, none⟩ = some (.slice Av nv cv) := cell_of_row _ _ 0 _ _ (0, 0) hset
      have hms : MemsAt (fun b => w.heap.size ≤ b) 2 (wr.setCell ⟨g + 1, 0, none⟩ (.slice Av nv cv)) (.slice Av nv cv) (delM s ms) := (hrl.keep (fun q hq _ => Below.heap_setCell _ _ _ _ (by simp; omega))).mems (fun b hb => by have := HG.out; omega)
      have hbW : Below w.heap.size w (wr.setCell ⟨g + 1, 0, none⟩ (.slice Av nv cv)) := by
        have h1 := HB.out
        rw [← HG.out] at h1
        exact bset (h1.grown hGr.out h1.size (fun q hq => by obtain rfl := Option.some.inj hq; have := HG.out; omega)) (p := ⟨g + 1, 0, none⟩) (by have := HG.out; show w.heap.size ≤ g + 1; omega) _
      have HF := Lib.hid (And.intro hms hbW)
      have Q0 := Lib.hid q0
      clear hset q0 hms hbW hres hrl
      go_wp2_with fail
      have q0 := Q0.out
      refine bodyPost_ret (v := .agg #[.slice Av nv cv]) ?_ rfl ⟨_, rfl, HF.out⟩
      simp [results, Try.results19, go_sem, q0]
end Go.Proofs.Ytbbdmaakphoofaa
