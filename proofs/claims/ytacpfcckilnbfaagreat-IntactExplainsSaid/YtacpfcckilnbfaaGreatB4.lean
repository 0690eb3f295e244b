/- What the laws of this seat share: part 4. -/
import Derived.Test.YtacpfcckilnbfaaGreatB3
import Derived.Deep.RegionHeld3

namespace Go.Proofs.YtacpfcckilnbfaaGreat
set_option linter.unusedVariables false
set_option linter.unusedSimpArgs false
open Go.RowKit

theorem holds_up {n : Int} {p : Int → Bool} : ∀ (d : Nat) (T : Tree), WF n d T → holdsT (d + 1) p T = holdsT d p T
  | 0, T, h => h.elim
  | d + 1, .mk thr ns is, h => by
    obtain ⟨_, _, _, _, _, _, hi⟩ := h
    have e : is.filter (holdsT (d + 1) p) = is.filter (holdsT d p) := List.filter_congr (fun T hT => holds_up d T (hi T hT))
    show decide (thr ≤ ((cnt p ns + cnt (holdsT (d + 1) p) is : Nat) : Int)) = decide (thr ≤ ((cnt p ns + cnt (holdsT d p) is : Nat) : Int))
    unfold cnt
    rw [e]

theorem holds_any {p : Int → Bool} {d : Nat} (ds : List Tree) : holdsT (d + 1) p (.mk 1 [] ds) = ds.any (holdsT d p) := by
  show decide ((1 : Int) ≤ ((cnt p [] + cnt (holdsT d p) ds : Nat) : Int)) = _
  rw [Bool.eq_iff_iff, decide_eq_true_iff, List.any_eq_true]
  unfold cnt
  constructor
  · intro h
    have h2 : 0 < (ds.filter (holdsT d p)).length := by simp at h; omega
    obtain ⟨x, hx⟩ := List.exists_mem_of_length_pos h2
    exact ⟨x, (List.mem_filter.1 hx).1, (List.mem_filter.1 hx).2⟩
  · rintro ⟨x, h1, h2⟩
    have h3 := List.length_pos_of_mem (List.mem_filter.2 ⟨h1, h2⟩)
    simp; omega

theorem holds_all {p : Int → Bool} {d : Nat} (ds : List Tree) : holdsT (d + 1) p (.mk (ds.length : Int) [] ds) = ds.all (holdsT d p) := by
  show decide ((ds.length : Int) ≤ ((cnt p [] + cnt (holdsT d p) ds : Nat) : Int)) = _
  rw [Bool.eq_iff_iff, decide_eq_true_iff, List.all_eq_true]
  unfold cnt
  constructor
  · intro h x hx
    have h2 : (ds.filter (holdsT d p)).length = ds.length := by
      have := List.length_filter_le (holdsT d p) ds
      simp at h; omega
    exact List.length_filter_eq_length_iff.1 h2 x hx
  · intro h
    have h2 := List.length_filter_eq_length_iff.2 h
    simp; omega

/-- What a list of trusts is joined to. -/
def JoinT (all : Bool) (n : Int) (ts : List Tree) (m : Mem) : Prop :=
  (ts = [] → m = (false, .mk 0 [] [])) ∧ (ts ≠ [] → m.1 = true ∧ WF n 3 m.2 ∧ ∃ ds : List Tree, ds ≠ [] ∧ (∀ d, d ∈ ds ↔ d ∈ ts) ∧ ∀ p, holdsT 3 p m.2 = if all then ds.all (holdsT 2 p) else ds.any (holdsT 2 p))

theorem diff_mem {ts ds : List Tree} (h : DiffOf ts ts.length ds) (d : Tree) : d ∈ ds ↔ d ∈ ts := by
  have h1 := h.sub
  have h2 := h.all
  rw [List.take_length] at h1 h2
  exact ⟨h1 d, h2 d⟩

theorem join_nil {all : Bool} {n : Int} {ts ds : List Tree} (h : DiffOf ts ts.length ds) (h0 : ds.length = 0) : JoinT all n ts (false, .mk 0 [] []) := by
  have hts : ts = [] := by
    cases ts with
    | nil => rfl
    | cons t ts =>
      have := (diff_mem h t).2 (by simp)
      rw [List.eq_nil_of_length_eq_zero h0] at this
      cases this
  exact ⟨fun _ => rfl, fun h => absurd hts h⟩

theorem diff_ne {ts ds : List Tree} (h : DiffOf ts ts.length ds) (h0 : 0 < ds.length) : ts ≠ [] := by
  rintro rfl
  have h1 : ds.length ≤ 0 := h.len
  omega

theorem join_one {all : Bool} {n : Int} {ts ds : List Tree} {d : Tree} (h : DiffOf ts ts.length ds) (hw : ∀ t ∈ ts, WF n 2 t) (h1 : ds.length = 1) (hd : ds[0]? = some d) : JoinT all n ts (true, d) := by
  have e : ds = [d] := by
    match ds, h1, hd with
    | [x], _, hd => simp at hd; rw [hd]
  have hm : d ∈ ts := (diff_mem h d).1 (by rw [e]; simp)
  refine ⟨fun h0 => absurd h0 (diff_ne h (by omega)), fun _ => ⟨rfl, D3.WF.up (hw d hm), ds, by rw [e]; simp, diff_mem h, fun p => ?_⟩⟩
  rw [holds_up 2 d (hw d hm), e]
  cases all <;> simp

theorem join_more {all : Bool} {n : Int} {ts ds : List Tree} {thr : Int} (h : DiffOf ts ts.length ds) (hw : ∀ t ∈ ts, WF n 2 t) (h3 : ts.length ≤ 3) (h1 : 0 < ds.length) (ht : thr = if all then (ds.length : Int) else 1) : JoinT all n ts (true, .mk thr [] ds) := by
  have hl := h.len
  refine ⟨fun h0 => absurd h0 (diff_ne h h1), fun _ => ⟨rfl, ⟨?_, ?_, by simp, by omega, by simp, by simp, fun T hT => hw T ((diff_mem h T).1 hT)⟩, ds, fun h0 => by rw [h0] at h1; simp at h1, diff_mem h, fun p => ?_⟩⟩
  · rw [ht]
    cases all
    · show (1 : Int) ≤ 1; omega
    · show (1 : Int) ≤ (ds.length : Int); omega
  · rw [ht]
    cases all
    · show (1 : Int) ≤ ((0 + ds.length : Nat) : Int); omega
    · show (ds.length : Int) ≤ ((0 + ds.length : Nat) : Int); omega
  · rw [ht]
    cases all
    · exact holds_any ds
    · exact holds_all ds

/-- Lists of trusts. -/
def LLAt (P : Nat → Prop) (W : World) (v : Value) (tss : List (List Tree)) : Prop :=
  ∃ A c, v = .slice A tss.length c ∧ ∀ k ts, tss[k]? = some ts → ∃ b off u, A = some ⟨b, off, none⟩ ∧ P b ∧ W.cell? ⟨b, off + k, none⟩ = some u ∧ ListT P 2 W u ts

theorem LLAt.keep {P : Nat → Prop} {W W' : World} {v : Value} {tss : List (List Tree)} (h : LLAt P W v tss) (hk : ∀ k, k < W.heap.size → P k → W'.heap[k]? = W.heap[k]?) : LLAt P W' v tss := by
  obtain ⟨A, c, h1, h2⟩ := h
  refine ⟨A, c, h1, fun k ts ht => ?_⟩
  obtain ⟨b, off, u, e1, e2, e3, e4⟩ := h2 k ts ht
  exact ⟨b, off, u, e1, e2, (World.cell?_of_block (a := ⟨b, off + k, none⟩) (hk b (cell_lt e3) e2)).trans e3, e4.both hk (fun _ _ h => h)⟩

/-- The first k members are joined. -/
def JoinL (all : Bool) (n : Int) (tss : List (List Tree)) (k : Nat) (ms : List Mem) : Prop := ms.length = k ∧ ∀ (i : Nat) (ts : List Tree) (m : Mem), tss[i]? = some ts → ms[i]? = some m → JoinT all n ts m

theorem JoinL.zero (all : Bool) (n : Int) (tss : List (List Tree)) : JoinL all n tss 0 [] := ⟨rfl, fun i ts m _ h => by cases h⟩

theorem JoinL.succ {all : Bool} {n : Int} {tss : List (List Tree)} {k : Nat} {ms : List Mem} {ts : List Tree} {m : Mem} (h : JoinL all n tss k ms) (ht : tss[k]? = some ts) (hm : JoinT all n ts m) : JoinL all n tss (k + 1) (ms ++ [m]) := by
  refine ⟨by rw [List.length_append, h.1]; rfl, fun i us x hu hx => ?_⟩
  rcases Nat.lt_or_ge i ms.length with h1 | h1
  · rw [List.getElem?_append_left h1] at hx
    exact h.2 i us x hu hx
  · have h2 := (List.getElem?_eq_some_iff.1 hx).1
    rw [List.length_append] at h2
    obtain rfl : i = k := by have := h.1; simp at h2; omega
    rw [ht] at hu
    obtain rfl := Option.some.inj hu
    rw [List.getElem?_append_right h1, h.1, Nat.sub_self] at hx
    have hx' : m = x := by simpa using hx
    rw [← hx']; exact hm

theorem JoinL.ok {all : Bool} {n : Nat} {tss : List (List Tree)} {ms : List Mem} (h : JoinL all (n : Int) tss n ms) (hn : tss.length = n) : D3.MemsOk ms.length ms := by
  intro x hx
  obtain ⟨k, hk, rfl⟩ := List.getElem_of_mem hx
  have hk2 : k < tss.length := by have := h.1; omega
  have hj := h.2 k _ _ (List.getElem?_eq_getElem hk2) (List.getElem?_eq_getElem hk)
  rw [h.1]
  by_cases h0 : tss[k] = []
  · have := hj.1 h0
    rw [this]
    exact ⟨fun h => (by cases h), fun _ => rfl⟩
  · have := hj.2 h0
    exact ⟨fun _ => this.2.1, fun h => by rw [this.1] at h; cases h⟩

end Go.Proofs.YtacpfcckilnbfaaGreat

namespace Go.Proofs.YtacpfcckilnbfaaGreat
set_option linter.unusedVariables false
set_option linter.unusedSimpArgs false
open Go.RowKit

set_option maxRecDepth 100000 in
set_option maxHeartbeats 4000000 in
theorem copy_one : ∀ (d : Nat), OneC 124 d (fun _ => True) (fun T => T)
  | 0 => fun P T x0 x1 x2 w h _ => h.elim
  | d + 1 => by
    have ih := copy_one d
    intro P T x0 x1 x2 w h hW
    obtain ⟨thr, ns, is⟩ := T
    obtain ⟨A, c, B, c', rfl, rfl, rfl, hn, hi, hbx⟩ := h.boxed
    obtain ⟨_, _, _, hN, hL⟩ := h.parts
    have HIH := Lib.hid ih
    have hb2 := balloc (balloc (bref w) (.cells #[.int .i64 thr, .slice A ns.length c, .slice B is.length c'] 73)) (.cells #[.int .i64 0, .slice none 0 0, .slice none 0 0] 73)
    have hS0 : CopyS w w.heap.size (w.heap.size + 1) thr (.slice A ns.length c) (.slice B is.length c') d ns is ((w.alloc (.cells #[.int .i64 thr, .slice A ns.length c, .slice B is.length c'] 73)).alloc (.cells #[.int .i64 0, .slice none 0 0, .slice none 0 0] 73)) := by
      refine ⟨⟨0, .slice none 0 0, .slice none 0 0, ?_⟩, (hN.both (fun _ _ _ => rfl) (fun k hk _ => hk)).below hb2, (hL.both (fun _ _ _ => rfl) (fun k hk _ => hk)).below hb2, ?_, hb2⟩
      · have := heap_alloc_new (w.alloc (.cells #[.int .i64 thr, .slice A ns.length c, .slice B is.length c'] 73)) (.cells #[.int .i64 0, .slice none 0 0, .slice none 0 0] 73)
        show _ = _
        simpa using this
      · exact (Below.heap_alloc _ _ _ hbx.lt).trans hbx.heap
    have HS0 := Lib.hid hS0
    clear h hbx ih hN hL hW hb2 hS0
    go_enter Tryz.func124, Tryz.ntmps124
    go_upto_region 1 with fail
    generalize (w.alloc (.cells #[.int .i64 thr, .slice A ns.length c, .slice B is.length c'] 73)).alloc (.cells #[.int .i64 0, .slice none 0 0, .slice none 0 0] 73) = W1 at *
    generalize hgg : w.heap.size = g at *
    have HGG := Lib.hid hgg
    clear hgg
    have hr1 : g + 1 < W1.heap.size := by
      obtain ⟨⟨y, u1, u2, h1⟩, _⟩ := HS0.out
      exact h1.lt
    have hS6 := Lib.hid (show W1.drew.cell? ⟨g, 0, none⟩ = some (.int .i64 thr) ∧ W1.drew.cell? ⟨g, 1, none⟩ = some (.slice A ns.length c) ∧ W1.drew.cell? ⟨g, 2, none⟩ = some (.slice B is.length c') ∧ CopyS w g (g + 1) thr (.slice A ns.length c) (.slice B is.length c') d ns is W1.drew from ⟨HS0.out.2.2.2.1.cs.1, HS0.out.2.2.2.1.cs.2.1, HS0.out.2.2.2.1.cs.2.2, copyS_drew HS0.out⟩)
    go_region_held3 (fun W => W.cell? ⟨g, 0, none⟩ = some (.int .i64 thr) ∧ W.cell? ⟨g, 1, none⟩ = some (.slice A ns.length c) ∧ W.cell? ⟨g, 2, none⟩ = some (.slice B is.length c') ∧ CopyS w g (g + 1) thr (.slice A ns.length c) (.slice B is.length c') d ns is W) (first | exact hS6.out | exact copyB (by assumption) hbK | exact copySet (by assumption) (by omega) (by rw [HGG.out]; omega) _ _ _ | go_keep)
      (first
        | (go_at_call 145; refine (flat_run _ _ ns _ hn (by exact copyN (by assumption))).mono ?_; rintro e WK ⟨vf, rfl, hNf, hbK⟩; obtain ⟨Af, cf, rfl⟩ := hNf.slice; have hSK := copyB (by assumption) hbK; obtain ⟨⟨y', u1', u2', hOK⟩, _⟩ := hSK.2.2.2; obtain ⟨p0, p1, p2⟩ := hOK.cs; have pf0 := hOK.fr 0; have pf1 := hOK.fr 1; have pf2 := hOK.fr 2; have hzf := hOK.lt)
        | (go_at_call 146; refine (listTrust_run d (fun _ => True) (fun T => T) HIH.out _ _ is _ hi (by exact copyL (by assumption)) (fun _ _ => trivial)).mono ?_; rintro e WK ⟨vl, rfl, hLl, hbK⟩; obtain ⟨Al, cl, rfl⟩ := hLl.slice; have hSK := copyB (by assumption) hbK; obtain ⟨⟨y', u1', u2', hOK⟩, _⟩ := hSK.2.2.2; obtain ⟨p0, p1, p2⟩ := hOK.cs; have pf0 := hOK.fr 0; have pf1 := hOK.fr 1; have pf2 := hOK.fr 2))
    have hF : WK.cell? ⟨g, 0, none⟩ = some (.int .i64 thr) ∧ WK.cell? ⟨g, 1, none⟩ = some (.slice A ns.length c) ∧ WK.cell? ⟨g, 2, none⟩ = some (.slice B is.length c') ∧ CopyS w g (g + 1) thr (.slice A ns.length c) (.slice B is.length c') d ns is WK := hSK
    have hbF : Below w.heap.size w WK := hF.2.2.2.2.2.2.2
    have hNF := NodesAt.both (Q := fun b => g ≤ b ∧ b ≠ g + 1) (NodesAt.below hNf hbK) (fun _ _ _ => rfl) (fun k hk hP => by have : W1.heap.size ≤ k := hP; omega)
    have hLF := ListT.both (Q := fun b => g ≤ b ∧ b ≠ g + 1) hLl (fun _ _ _ => rfl) (fun k hk hP => by omega)
    have far : ∀ q, q ≠ g + 1 → (((WK.setCell ⟨g + 1, 0, none⟩ (.int .i64 thr)).setCell ⟨g + 1, 1, none⟩ (.slice Af ns.length cf)).setCell ⟨g + 1, 2, none⟩ (.slice Al is.length cl)).heap[q]? = WK.heap[q]? := fun q hq =>
      (Below.heap_setCell _ _ _ _ (by simpa using hq)).trans ((Below.heap_setCell _ _ _ _ (by simpa using hq)).trans (Below.heap_setCell _ _ _ _ (by simpa using hq)))
    have hNF2 := NodesAt.both (Q := fun b => g ≤ b) hNF (fun k _ hk => far k hk.2) (fun k _ hk => hk.1)
    have hLF2 := ListT.both (Q := fun b => g ≤ b) hLF (fun k _ hk => far k hk.2) (fun k _ hk => hk.1)
    have hbF2 := bset (bset (bset hbF (p := ⟨g + 1, 0, none⟩) (by rw [HGG.out]; simp) (.int .i64 thr)) (p := ⟨g + 1, 1, none⟩) (by rw [HGG.out]; simp) (.slice Af ns.length cf)) (p := ⟨g + 1, 2, none⟩) (by rw [HGG.out]; simp) (.slice Al is.length cl)
    have HOK := Lib.hid hOK
    have HNF2 := Lib.hid hNF2
    have HLF2 := Lib.hid hLF2
    have HBF2 := Lib.hid hbF2
    clear hNF hLF far hNF2 hLF2 hbF2 hF hSK hbF
    go_wp2_with fail
    refine bodyPost_ret (v := .agg #[.int .i64 thr, .slice Af ns.length cf, .slice Al is.length cl]) ?_ rfl ⟨_, _, _, rfl, ?_, HBF2.out⟩
    · simp [results, Tryz.results124, go_sem, p0, p1, p2]
    · rw [HGG.out]
      have h := TAt.of_parts (thr := thr) hn (by simpa using hi) HNF2.out HLF2.out
      simpa using h

end Go.Proofs.YtacpfcckilnbfaaGreat

namespace Go.Proofs.YtacpfcckilnbfaaGreat
set_option linter.unusedVariables false
set_option linter.unusedSimpArgs false
open Go.RowKit

theorem own_down {W : World} {B B' n e size : Nat} {v : Value} {xs : List Value} (h : W.ownsRow B e size v n xs) (hb : B' ≤ B) : W.ownsRow B' e size v n xs := by
  refine ⟨h.1, ?_⟩
  rcases h.2 with hn | ⟨g, cap, cur, h1, h2, h3⟩
  · exact .inl hn
  · exact .inr ⟨g, cap, cur, h1, by omega, h3⟩

/-- The world of data.Member: the box g, the result g + 1. -/
def MemC (w : World) (g d : Nat) (b : Bool) (t : Int) (v1 v2 : Value) (T : Tree) (W : World) : Prop :=
  W.heap[g]? = some (.cells #[.bool b, .int .i64 t, v1, v2] 75 (0, 0)) ∧ (∃ r0 r1 r2 r3, W.heap[g + 1]? = some (.cells #[r0, r1, r2, r3] 75 (0, 0))) ∧ TAt (fun q => q < g) d W (.int .i64 t) v1 v2 T ∧ Below w.heap.size w W

theorem MemC.bel {w W W' : World} {g d : Nat} {b : Bool} {t : Int} {v1 v2 : Value} {T : Tree} (h : MemC w g d b t v1 v2 T W) (hb : Below W.heap.size W W') : MemC w g d b t v1 v2 T W' := by
  obtain ⟨h1, ⟨r0, r1, r2, r3, h2⟩, h3, h4⟩ := h
  exact ⟨(hb.block _ (Array.getElem?_eq_some_iff.1 h1).1).trans h1, ⟨r0, r1, r2, r3, (hb.block _ (Array.getElem?_eq_some_iff.1 h2).1).trans h2⟩, h3.below hb, bstep h4 hb⟩

theorem MemC.cs {w W : World} {g d : Nat} {b : Bool} {t : Int} {v1 v2 : Value} {T : Tree} (h : MemC w g d b t v1 v2 T W) : W.cell? ⟨g, 0, none⟩ = some (.bool b) ∧ W.cell? ⟨g, 1, none⟩ = some (.int .i64 t) ∧ W.cell? ⟨g, 2, none⟩ = some v1 ∧ W.cell? ⟨g, 3, none⟩ = some v2 ∧ MemC w g d b t v1 v2 T W :=
  ⟨cell_of_row _ _ 0 _ _ (0, 0) h.1, cell_of_row _ _ 1 _ _ (0, 0) h.1, cell_of_row _ _ 2 _ _ (0, 0) h.1, cell_of_row _ _ 3 _ _ (0, 0) h.1, h⟩

theorem keepMC {w W W' : World} {g d : Nat} {b : Bool} {t : Int} {v1 v2 : Value} {T : Tree}
    (h : W.cell? ⟨g, 0, none⟩ = some (.bool b) ∧ W.cell? ⟨g, 1, none⟩ = some (.int .i64 t) ∧ W.cell? ⟨g, 2, none⟩ = some v1 ∧ W.cell? ⟨g, 3, none⟩ = some v2 ∧ MemC w g d b t v1 v2 T W) (hb : Below W.heap.size W W') :
    W'.cell? ⟨g, 0, none⟩ = some (.bool b) ∧ W'.cell? ⟨g, 1, none⟩ = some (.int .i64 t) ∧ W'.cell? ⟨g, 2, none⟩ = some v1 ∧ W'.cell? ⟨g, 3, none⟩ = some v2 ∧ MemC w g d b t v1 v2 T W' := (h.2.2.2.2.bel hb).cs

theorem tatMC {w W : World} {g d : Nat} {b : Bool} {t : Int} {v1 v2 : Value} {T : Tree}
    (h : W.cell? ⟨g, 0, none⟩ = some (.bool b) ∧ W.cell? ⟨g, 1, none⟩ = some (.int .i64 t) ∧ W.cell? ⟨g, 2, none⟩ = some v1 ∧ W.cell? ⟨g, 3, none⟩ = some v2 ∧ MemC w g d b t v1 v2 T W) : TAt (fun q => q < g) d W (.int .i64 t) v1 v2 T := h.2.2.2.2.2.2.1

theorem szMC {w W : World} {g d : Nat} {b : Bool} {t : Int} {v1 v2 : Value} {T : Tree}
    (h : W.cell? ⟨g, 0, none⟩ = some (.bool b) ∧ W.cell? ⟨g, 1, none⟩ = some (.int .i64 t) ∧ W.cell? ⟨g, 2, none⟩ = some v1 ∧ W.cell? ⟨g, 3, none⟩ = some v2 ∧ MemC w g d b t v1 v2 T W) : g + 2 ≤ W.heap.size := by
  obtain ⟨r0, r1, r2, r3, h2⟩ := h.2.2.2.2.2.1
  exact (Array.getElem?_eq_some_iff.1 h2).1

theorem setMC {w W : World} {g d : Nat} {b : Bool} {t : Int} {v1 v2 : Value} {T : Tree}
    (h : W.cell? ⟨g, 0, none⟩ = some (.bool b) ∧ W.cell? ⟨g, 1, none⟩ = some (.int .i64 t) ∧ W.cell? ⟨g, 2, none⟩ = some v1 ∧ W.cell? ⟨g, 3, none⟩ = some v2 ∧ MemC w g d b t v1 v2 T W) (hg : w.heap.size = g) (a0 a1 a2 a3 : Value) :
    ((((W.setCell ⟨g + 1, 0, none⟩ a0).setCell ⟨g + 1, 1, none⟩ a1).setCell ⟨g + 1, 2, none⟩ a2).setCell ⟨g + 1, 3, none⟩ a3).cell? ⟨g, 0, none⟩ = some (.bool b) ∧ ((((W.setCell ⟨g + 1, 0, none⟩ a0).setCell ⟨g + 1, 1, none⟩ a1).setCell ⟨g + 1, 2, none⟩ a2).setCell ⟨g + 1, 3, none⟩ a3).cell? ⟨g, 1, none⟩ = some (.int .i64 t) ∧ ((((W.setCell ⟨g + 1, 0, none⟩ a0).setCell ⟨g + 1, 1, none⟩ a1).setCell ⟨g + 1, 2, none⟩ a2).setCell ⟨g + 1, 3, none⟩ a3).cell? ⟨g, 2, none⟩ = some v1 ∧ ((((W.setCell ⟨g + 1, 0, none⟩ a0).setCell ⟨g + 1, 1, none⟩ a1).setCell ⟨g + 1, 2, none⟩ a2).setCell ⟨g + 1, 3, none⟩ a3).cell? ⟨g, 3, none⟩ = some v2 ∧ MemC w g d b t v1 v2 T ((((W.setCell ⟨g + 1, 0, none⟩ a0).setCell ⟨g + 1, 1, none⟩ a1).setCell ⟨g + 1, 2, none⟩ a2).setCell ⟨g + 1, 3, none⟩ a3) := by
  obtain ⟨h1, ⟨r0, r1, r2, r3, h2⟩, h3, h4⟩ := h.2.2.2.2
  have far : ∀ q, q ≠ g + 1 → ((((W.setCell ⟨g + 1, 0, none⟩ a0).setCell ⟨g + 1, 1, none⟩ a1).setCell ⟨g + 1, 2, none⟩ a2).setCell ⟨g + 1, 3, none⟩ a3).heap[q]? = W.heap[q]? := fun q hq =>
    (Below.heap_setCell _ _ _ _ (by simpa using hq)).trans ((Below.heap_setCell _ _ _ _ (by simpa using hq)).trans ((Below.heap_setCell _ _ _ _ (by simpa using hq)).trans (Below.heap_setCell _ _ _ _ (by simpa using hq))))
  refine MemC.cs ⟨(far g (by omega)).trans h1, ⟨a0, a1, a2, a3, ?_⟩, h3.keep (fun q _ hq => far q (by omega)), ?_⟩
  · simp [World.setCell, Array.getElem?_modify, h2]
  · exact bset (bset (bset (bset h4 (p := ⟨g + 1, 0, none⟩) (by show w.heap.size ≤ g + 1; omega) _) (p := ⟨g + 1, 1, none⟩) (by show w.heap.size ≤ g + 1; omega) _) (p := ⟨g + 1, 2, none⟩) (by show w.heap.size ≤ g + 1; omega) _) (p := ⟨g + 1, 3, none⟩) (by show w.heap.size ≤ g + 1; omega) _

/-- The contract of one member's copy. -/
def OneM (d : Nat) : Prop := ∀ (P : Nat → Prop) (b : Bool) (T : Tree) (x0 x1 x2 : Value) (w : World), TAt P d w x0 x1 x2 T →
    Calls Tryz.prog 123 #[.agg #[.bool b, x0, x1, x2]] w fun e w' => ∃ y0 y1 y2, e = .returned (.agg #[.bool b, y0, y1, y2]) ∧ TAt (fun q => w.heap.size ≤ q) d w' y0 y1 y2 T ∧ Below w.heap.size w w'

set_option maxRecDepth 100000 in
set_option maxHeartbeats 4000000 in
theorem member_run (d : Nat) : OneM d := by
  intro P b T x0 x1 x2 w h
  obtain ⟨t, A1, n1, c1, A2, n2, c2, rfl, rfl, rfl⟩ := h.form
  have hb2 : Below w.heap.size w ((w.alloc (.cells #[.bool b, .int .i64 t, .slice A1 n1 c1, .slice A2 n2 c2] 75)).alloc (.cells #[.bool false, .int .i64 0, .slice none 0 0, .slice none 0 0] 75)) := balloc (balloc (bref w) _) _
  have HM := Lib.hid (show MemC w w.heap.size d b t (.slice A1 n1 c1) (.slice A2 n2 c2) T ((w.alloc (.cells #[.bool b, .int .i64 t, .slice A1 n1 c1, .slice A2 n2 c2] 75)).alloc (.cells #[.bool false, .int .i64 0, .slice none 0 0, .slice none 0 0] 75)) from
    ⟨alloc_on (alloc_at rfl), ⟨_, _, _, _, alloc_at (alloc_sz _ _)⟩, (h.both (Q := fun q => q < w.heap.size) (fun _ _ _ => rfl) (fun k hk _ => hk)).below hb2, hb2⟩)
  have hsz : ((w.alloc (.cells #[.bool b, .int .i64 t, .slice A1 n1 c1, .slice A2 n2 c2] 75)).alloc (.cells #[.bool false, .int .i64 0, .slice none 0 0, .slice none 0 0] 75)).heap.size = w.heap.size + 2 := by rw [alloc_sz, alloc_sz]
  clear h hb2
  go_enter Tryz.func123, Tryz.ntmps123
  go_upto_region 1 with fail
  generalize ((w.alloc (.cells #[.bool b, .int .i64 t, .slice A1 n1 c1, .slice A2 n2 c2] 75)).alloc (.cells #[.bool false, .int .i64 0, .slice none 0 0, .slice none 0 0] 75)) = W1 at *
  generalize hg : w.heap.size = g at *
  have HG := Lib.hid hg
  clear hg
  have hS6 := Lib.hid (show W1.drew.cell? ⟨g, 0, none⟩ = some (.bool b) ∧ W1.drew.cell? ⟨g, 1, none⟩ = some (.int .i64 t) ∧ W1.drew.cell? ⟨g, 2, none⟩ = some (.slice A1 n1 c1) ∧ W1.drew.cell? ⟨g, 3, none⟩ = some (.slice A2 n2 c2) ∧ MemC w g d b t (.slice A1 n1 c1) (.slice A2 n2 c2) T W1.drew from (HM.out.bel (W' := W1.drew) ⟨rfl, rfl, rfl, Nat.le_refl _, fun _ _ => rfl⟩).cs)
  go_region_held3 (fun W => W.cell? ⟨g, 0, none⟩ = some (.bool b) ∧ W.cell? ⟨g, 1, none⟩ = some (.int .i64 t) ∧ W.cell? ⟨g, 2, none⟩ = some (.slice A1 n1 c1) ∧ W.cell? ⟨g, 3, none⟩ = some (.slice A2 n2 c2) ∧ MemC w g d b t (.slice A1 n1 c1) (.slice A2 n2 c2) T W) (first | exact hS6.out | exact hSK | exact keepMC (by assumption) hbK | exact setMC (by assumption) (by exact HG.out) _ _ _ _ | go_keep)
    (first
      | (go_at_call 124; refine (copy_one d _ T _ _ _ _ (by exact tatMC (by assumption)) trivial).mono ?_; rintro e WK ⟨y0, y1, y2, rfl, hTK0, hbK⟩; have hTK := TAt.imp (Q := fun q => g + 2 ≤ q) (fun q _ hq => Nat.le_trans (szMC (w := w) (g := g) (d := d) (b := b) (t := t) (v1 := .slice A1 n1 c1) (v2 := .slice A2 n2 c2) (T := T) (by assumption)) hq) hTK0; obtain ⟨t2, B1, m1, e1, B2, m2, e2, rfl, rfl, rfl⟩ := hTK.form; have hSK := keepMC (by assumption) hbK; obtain ⟨r0, r1, r2, r3, hOK⟩ := hSK.2.2.2.2.2.1; have p0 := cell_of_row WK (g + 1) 0 _ _ (0, 0) hOK; have p1 := cell_of_row WK (g + 1) 1 _ _ (0, 0) hOK; have p2 := cell_of_row WK (g + 1) 2 _ _ (0, 0) hOK; have p3 := cell_of_row WK (g + 1) 3 _ _ (0, 0) hOK; have f0 : WK.frozen? ⟨g + 1, 0, none⟩ = false := (by simp [World.frozen?, hOK]); have f1 : WK.frozen? ⟨g + 1, 1, none⟩ = false := (by simp [World.frozen?, hOK]); have f2 : WK.frozen? ⟨g + 1, 2, none⟩ = false := (by simp [World.frozen?, hOK]); have f3 : WK.frozen? ⟨g + 1, 3, none⟩ = false := (by simp [World.frozen?, hOK])))
  have hF := setMC hSK HG.out (.bool b) (.int .i64 t2) (.slice B1 m1 e1) (.slice B2 m2 e2)
  have hw1 : W1.heap.size = g + 2 := hsz
  go_wp2_with fail
  refine bodyPost_ret (v := .agg #[.bool b, .int .i64 t2, .slice B1 m1 e1, .slice B2 m2 e2]) ?_ rfl ⟨_, _, _, rfl, ?_, ?_⟩
  · simp [results, Tryz.results123, go_sem, p0, p1, p2, p3]
  · exact TAt.both (fun q _ hq => (Below.heap_setCell _ _ _ _ (by simp; omega)).trans ((Below.heap_setCell _ _ _ _ (by simp; omega)).trans ((Below.heap_setCell _ _ _ _ (by simp; omega)).trans (Below.heap_setCell _ _ _ _ (by simp; omega))))) (fun q _ hq => by have := HG.out; omega) _ _ _ _ _ hTK
  · exact hF.2.2.2.2.2.2.2

set_option maxHeartbeats 4000000 in
set_option maxRecDepth 100000 in
theorem listMember_run (d : Nat) (P : Nat → Prop) (v : Value) (ms : List Mem) (w : World) (hn : ms.length ≤ 10) (h : MemsAt P d w v ms) :
    Calls Tryz.prog 122 #[v, .func (.func 123) #[] #[]] w fun e w' => ∃ v', e = .returned v' ∧ GRow (fun q => w.heap.size ≤ q) w.heap.size d w' v' ms ∧ Below w.heap.size w w' := by
  obtain ⟨i0, hi, hz0, hz1, hz2⟩ := info_parts infoMember
  obtain ⟨A, c, rfl, h1⟩ := h
  have H1 := Lib.hid h1
  clear h1
  by_cases h0 : ms.length = 0
  · have hl0 : ((ms.length : Int) == 0) = true := by rw [h0]; rfl
    have hE := Lib.hid (List.eq_nil_of_length_eq_zero h0)
    clear h0
    go_enter Tryz.func122, Tryz.ntmps122
    go_wp2_with fail
    go_ret
    exact ⟨_, rfl, by rw [hE.out]; exact GRow.nil _ _ _ _, bref _⟩
  · have hl0 : ((ms.length : Int) == 0) = false := by rw [beq_eq_false_iff_ne]; omega
    go_enter Tryz.func122, Tryz.ntmps122
    go_wp2_with (at_make; refine wpList_make_full _ rfl _ _ 25 rfl w.heap.size 75 i0 (.agg #[.bool false, .int .i64 0, .slice none 0 0, .slice none 0 0]) 4 Tryz.underlying25 hi hz0 hz1 .i64 .i64 _ _ ms.length rfl rfl rfl rfl (by rw [hz2]; omega) (by unfold maxLen; omega) (Nat.le_refl _) ?_; intro w1 hown hgrow)
    have hcs1 := hown.1
    have HB1 := Lib.hid (show Below w.heap.size w w1 from (bref w).grown hgrow (Nat.le_refl _) (fun j hj => by cases hj))
    have hgl : w.heap.size < w1.heap.size := (hown.lt w.heap.size rfl).2
    go_loopw [16] (fun t wr => ∃ (k : Nat) (cs : List Value), k ≤ ms.length ∧ t = .int .i64 k ∧ Hid (wr.ownsRow w.heap.size 75 4 (.slice (some ⟨w.heap.size, 0, none⟩) ms.length ms.length) ms.length cs) ∧
      Hid (∀ j (m : Mem), j < k → ms[j]? = some m → ∃ y0 y1 y2, cs[j * 4]? = some (.bool m.1) ∧ cs[j * 4 + 1]? = some y0 ∧ cs[j * 4 + 2]? = some y1 ∧ cs[j * 4 + 3]? = some y2 ∧ TAt (fun b => w.heap.size < b) d wr y0 y1 y2 m.2) ∧ Hid (Below w.heap.size w wr)) (fun t _ => ms.length - (intOf t).toNat)
    case atStart => exact ⟨0, _, by omega, rfl, Lib.hid hown, Lib.hid (fun j T hj => by omega), HB1⟩
    case round =>
      clear hown hgrow hcs1 HB1 hgl
      obtain ⟨k, cs, hk, rfl, hO, hY, hB⟩ := hrel
      have hcl := hO.out.1
      have hgl := (hO.out.lt w.heap.size rfl).2
      by_cases hlt : k < ms.length
      · obtain ⟨m, hT⟩ : ∃ m, ms[k]? = some m := ⟨_, List.getElem?_eq_getElem hlt⟩
        obtain ⟨b, off, x0, x1, x2, rfl, hPb, cb0, c0, c1, c2, hTk⟩ := H1.out k m hT
        obtain ⟨t', A', n', ca, B', m', cb, rfl, rfl, rfl⟩ := hTk.form
        obtain ⟨bm, T⟩ := m
        have hbl := cell_lt c0
        simp only at hbl
        have eb : wr.cell? ⟨b, off + k * 4, none⟩ = some (.bool bm) := (hB.out.cell (p := ⟨b, off + k * 4, none⟩) hbl).trans cb0
        have e0 : wr.cell? ⟨b, off + k * 4 + 1, none⟩ = some (.int .i64 t') := (hB.out.cell (p := ⟨b, off + k * 4 + 1, none⟩) hbl).trans c0
        have e1 : wr.cell? ⟨b, off + k * 4 + 2, none⟩ = some (.slice A' n' ca) := (hB.out.cell (p := ⟨b, off + k * 4 + 2, none⟩) hbl).trans c1
        have e2 : wr.cell? ⟨b, off + k * 4 + 3, none⟩ = some (.slice B' m' cb) := (hB.out.cell (p := ⟨b, off + k * 4 + 3, none⟩) hbl).trans c2
        have hTr := Lib.hid ((hTk.below hB.out).below (balloc (bref wr) (.cells #[.bool bm, .int .i64 t', .slice A' n' ca, .slice B' m' cb] 75)))
        have HT := Lib.hid hT
        have hO1 := Lib.hid (hO.out.alloc (.cells #[.bool bm, .int .i64 t', .slice A' n' ca, .slice B' m' cb] 75))
        have hB1 := Lib.hid (balloc hB.out (.cells #[.bool bm, .int .i64 t', .slice A' n' ca, .slice B' m' cb] 75))
        have HF := Lib.hid (member_run d P bm T _ _ _ _ hTr.out)
        clear cb0 c0 c1 c2 hTk hT
        go_wp2_with fail
        refine HF.out.mono ?_
        rintro e w2 ⟨z0, z1, z2, rfl, hz, hb2⟩
        obtain ⟨t2, A2, n2, ca2, B2, m2, cb2, rfl, rfl, rfl⟩ := hz.form
        have hO2 := hO1.out.kept (grown_below (r := none) hb2) (.inr (by simp [Value.ownBlock]))
        have fb : w2.cell? ⟨w.heap.size, k * 4, none⟩ = cs[k * 4]? := hO2.cellAt (k * 4) (by omega)
        have f0 : w2.cell? ⟨w.heap.size, k * 4 + 1, none⟩ = cs[k * 4 + 1]? := hO2.cellAt (k * 4 + 1) (by omega)
        have f1 : w2.cell? ⟨w.heap.size, k * 4 + 2, none⟩ = cs[k * 4 + 2]? := hO2.cellAt (k * 4 + 2) (by omega)
        have f2 : w2.cell? ⟨w.heap.size, k * 4 + 3, none⟩ = cs[k * 4 + 3]? := hO2.cellAt (k * 4 + 3) (by omega)
        rw [List.getElem?_eq_getElem (by omega)] at fb f0 f1 f2
        have gb := hO2.frozenAt (k * 4)
        have g0 := hO2.frozenAt (k * 4 + 1)
        have g1 := hO2.frozenAt (k * 4 + 2)
        have g2 := hO2.frozenAt (k * 4 + 3)
        generalize cs[k * 4]'(by omega) = ub at fb
        generalize cs[k * 4 + 1]'(by omega) = u0 at f0
        generalize cs[k * 4 + 2]'(by omega) = u1 at f1
        generalize cs[k * 4 + 3]'(by omega) = u2 at f2
        have hO3 := Lib.hid (((((hO2.stored (k * 4) (.bool bm)).1.stored (k * 4 + 1) (.int .i64 t2)).1.stored (k * 4 + 2) (.slice A2 n2 ca2)).1.stored (k * 4 + 3) (.slice B2 m2 cb2)).1)
        have hB2 := Lib.hid (bset (bset (bset (bset (bstep hB1.out hb2) (p := ⟨w.heap.size, k * 4, none⟩) (Nat.le_refl _) (.bool bm)) (p := ⟨w.heap.size, k * 4 + 1, none⟩) (Nat.le_refl _) (.int .i64 t2)) (p := ⟨w.heap.size, k * 4 + 2, none⟩) (Nat.le_refl _) (.slice A2 n2 ca2)) (p := ⟨w.heap.size, k * 4 + 3, none⟩) (Nat.le_refl _) (.slice B2 m2 cb2))
        have hfar : ∀ q, q ≠ w.heap.size → ((((w2.setCell ⟨w.heap.size, k * 4, none⟩ (.bool bm)).setCell ⟨w.heap.size, k * 4 + 1, none⟩ (.int .i64 t2)).setCell ⟨w.heap.size, k * 4 + 2, none⟩ (.slice A2 n2 ca2)).setCell ⟨w.heap.size, k * 4 + 3, none⟩ (.slice B2 m2 cb2)).heap[q]? = w2.heap[q]? := fun q hq =>
          (Below.heap_setCell _ _ _ _ (by simpa using hq)).trans ((Below.heap_setCell _ _ _ _ (by simpa using hq)).trans ((Below.heap_setCell _ _ _ _ (by simpa using hq)).trans (Below.heap_setCell _ _ _ _ (by simpa using hq))))
        have hY3 : Hid (∀ j (m : Mem), j < k + 1 → ms[j]? = some m → ∃ y0 y1 y2, ((((cs.set (k * 4) (.bool bm)).set (k * 4 + 1) (.int .i64 t2)).set (k * 4 + 2) (.slice A2 n2 ca2)).set (k * 4 + 3) (.slice B2 m2 cb2))[j * 4]? = some (.bool m.1) ∧ ((((cs.set (k * 4) (.bool bm)).set (k * 4 + 1) (.int .i64 t2)).set (k * 4 + 2) (.slice A2 n2 ca2)).set (k * 4 + 3) (.slice B2 m2 cb2))[j * 4 + 1]? = some y0 ∧ ((((cs.set (k * 4) (.bool bm)).set (k * 4 + 1) (.int .i64 t2)).set (k * 4 + 2) (.slice A2 n2 ca2)).set (k * 4 + 3) (.slice B2 m2 cb2))[j * 4 + 2]? = some y1 ∧ ((((cs.set (k * 4) (.bool bm)).set (k * 4 + 1) (.int .i64 t2)).set (k * 4 + 2) (.slice A2 n2 ca2)).set (k * 4 + 3) (.slice B2 m2 cb2))[j * 4 + 3]? = some y2 ∧
            TAt (fun b => w.heap.size < b) d ((((w2.setCell ⟨w.heap.size, k * 4, none⟩ (.bool bm)).setCell ⟨w.heap.size, k * 4 + 1, none⟩ (.int .i64 t2)).setCell ⟨w.heap.size, k * 4 + 2, none⟩ (.slice A2 n2 ca2)).setCell ⟨w.heap.size, k * 4 + 3, none⟩ (.slice B2 m2 cb2)) y0 y1 y2 m.2) := Lib.hid (by
          intro j mj hj hT'
          rcases Nat.lt_or_ge j k with hjk | hjk
          · obtain ⟨y0, y1, y2, ab, a0, a1, a2, a3⟩ := hY.out j mj hjk hT'
            refine ⟨y0, y1, y2, ?_, ?_, ?_, ?_, ?_⟩
            · rw [List.getElem?_set_ne (by omega), List.getElem?_set_ne (by omega), List.getElem?_set_ne (by omega), List.getElem?_set_ne (by omega)]; exact ab
            · rw [List.getElem?_set_ne (by omega), List.getElem?_set_ne (by omega), List.getElem?_set_ne (by omega), List.getElem?_set_ne (by omega)]; exact a0
            · rw [List.getElem?_set_ne (by omega), List.getElem?_set_ne (by omega), List.getElem?_set_ne (by omega), List.getElem?_set_ne (by omega)]; exact a1
            · rw [List.getElem?_set_ne (by omega), List.getElem?_set_ne (by omega), List.getElem?_set_ne (by omega), List.getElem?_set_ne (by omega)]; exact a2
            · exact TAt.keep (fun q _ hq => hfar q (by omega)) (TAt.below (TAt.below a3 (balloc (bref wr) (.cells #[.bool bm, .int .i64 t', .slice A' n' ca, .slice B' m' cb] 75))) hb2)
          · obtain rfl : j = k := by omega
            have hTT : mj = (bm, T) := by rw [HT.out] at hT'; exact (Option.some.inj hT').symm
            subst hTT
            refine ⟨_, _, _, ?_, ?_, ?_, ?_, TAt.both (fun q _ hq => hfar q (by simp at hq; omega)) (fun q _ hq => by simp at hq; omega) _ _ _ _ _ hz⟩
            · rw [List.getElem?_set_ne (by omega), List.getElem?_set_ne (by omega), List.getElem?_set_ne (by omega), List.getElem?_set_self (by omega)]
            · rw [List.getElem?_set_ne (by omega), List.getElem?_set_ne (by omega), List.getElem?_set_self (by simp; omega)]
            · rw [List.getElem?_set_ne (by omega), List.getElem?_set_self (by simp; omega)]
            · rw [List.getElem?_set_self (by simp; omega)])
        clear hO2 hz hb2 hfar
        go_wp2_with fail
        go_roundw
        case rel => exact ⟨k + 1, _, by omega, by go_num, hO3, hY3, hB2⟩
        case measure => simp [intOf]; omega
      · obtain rfl : k = ms.length := by omega
        go_wp2_with fail
        go_ret
        refine ⟨_, rfl, ⟨cs, hO.out, fun j m hm => ?_⟩, hB.out⟩
        obtain ⟨y0, y1, y2, ab, a0, a1, a2, a3⟩ := hY.out j m (List.getElem?_eq_some_iff.1 hm).1 hm
        exact ⟨y0, y1, y2, ab, a0, a1, a2, a3.imp (fun q _ hq => ⟨by omega, fun e => by simp [Value.ownBlock] at e; omega⟩)⟩

set_option maxHeartbeats 4000000 in
set_option maxRecDepth 100000 in
theorem pconfig_run (d : Nat) (P : Nat → Prop) (v : Value) (ms : List Mem) (w : World) (hn : ms.length ≤ 10) (h : MemsAt P d w v ms) :
    Calls Tryz.prog 95 #[.agg #[v]] w fun e w' => ∃ v', e = .returned (.agg #[v']) ∧ GRow (fun q => w.heap.size ≤ q) w.heap.size d w' v' ms ∧ Below w.heap.size w w' := by
  obtain ⟨A, c, rfl⟩ := h.slice
  have hb2 : Below w.heap.size w ((w.alloc (.cells #[.slice A ms.length c] 27)).alloc (.cells #[.slice none 0 0] 27)) := balloc (balloc (bref w) _) _
  have k0 : ((w.alloc (.cells #[.slice A ms.length c] 27)).alloc (.cells #[.slice none 0 0] 27)).heap[w.heap.size]? = some (.cells #[.slice A ms.length c] 27 (0, 0)) := alloc_on (alloc_at rfl)
  have k1 : ((w.alloc (.cells #[.slice A ms.length c] 27)).alloc (.cells #[.slice none 0 0] 27)).heap[w.heap.size + 1]? = some (.cells #[.slice none 0 0] 27 (0, 0)) := alloc_at (alloc_sz _ _)
  have hsz : ((w.alloc (.cells #[.slice A ms.length c] 27)).alloc (.cells #[.slice none 0 0] 27)).heap.size = w.heap.size + 2 := by rw [alloc_sz, alloc_sz]
  have H := Lib.hid (h.below hb2)
  have HB := Lib.hid hb2
  have K0 := Lib.hid k0
  have K1 := Lib.hid k1
  clear h hb2 k0 k1
  go_enter Tryz.func95, Tryz.ntmps95
  go_upto_region 1 with fail
  generalize ((w.alloc (.cells #[.slice A ms.length c] 27)).alloc (.cells #[.slice none 0 0] 27)) = W1 at *
  generalize hg : w.heap.size = g at *
  have HG := Lib.hid hg
  clear hg
  have c0 : W1.cell? ⟨g, 0, none⟩ = some (.slice A ms.length c) := cell_of_row _ _ 0 _ _ (0, 0) K0.out
  go_wp2_with fail
  refine (listMember_run d P _ ms _ hn H.out).mono ?_
  rintro e W2 ⟨v', rfl, hR, hb⟩
  have hms := hR.mems (P := fun _ => True) (fun _ _ => trivial)
  obtain ⟨A2, c2, rfl⟩ := hms.slice
  have K2 := Lib.hid ((hb.block (g + 1) (by omega)).trans K1.out)
  have z0 : W2.cell? ⟨g + 1, 0, none⟩ = some (.slice none 0 0) := cell_of_row _ _ 0 _ _ (0, 0) K2.out
  have zf : W2.frozen? ⟨g + 1, 0, none⟩ = false := by simp [World.frozen?, K2.out]
  have hzl := cell_lt z0
  have HR := Lib.hid hR
  have HB2 := Lib.hid (show Below w.heap.size w W2 from (by have h1 := HB.out; rw [← HG.out] at h1; exact h1.trans (hb.mono (by have := HG.out; omega))))
  have hw1 := hb.size
  clear hms hR hb c0
  go_wp2_with fail
  refine bodyPost_ret (v := .agg #[.slice A2 ms.length c2]) ?_ rfl ⟨_, rfl, ?_, ?_⟩
  · simp [results, Tryz.results95, go_sem, z0]
  · have h2 := HR.out
    obtain ⟨cs, h3, h4⟩ := h2
    have hk : ∀ q, W1.heap.size ≤ q → (W2.setCell ⟨g + 1, 0, none⟩ (.slice A2 ms.length c2)).heap[q]? = W2.heap[q]? := fun q hq => Below.heap_setCell _ _ _ _ (by simp; omega)
    refine ⟨cs, ?_, fun k m hm => ?_⟩
    · have h5 := own_keepG h3 (W' := W2.setCell ⟨g + 1, 0, none⟩ (.slice A2 ms.length c2)) (fun j _ hB hl => hk j hB)
      exact own_down h5 (by have := HG.out; omega)
    · obtain ⟨x0, x1, x2, e0, e1, e2, e3, e4⟩ := h4 k m hm
      exact ⟨x0, x1, x2, e0, e1, e2, e3, TAt.both (fun q _ hP => hk q hP.1) (fun q _ hP => ⟨by have := HG.out; omega, hP.2⟩) _ _ _ _ _ e4⟩
  · exact bset HB2.out (p := ⟨g + 1, 0, none⟩) (by show w.heap.size ≤ g + 1; have := HG.out; omega) _

end Go.Proofs.YtacpfcckilnbfaaGreat

namespace Go.Proofs.YtacpfcckilnbfaaGreat
set_option linter.unusedVariables false
set_option linter.unusedSimpArgs false
open Go.RowKit

/-- What without returns: whether anything is still needed, and if so the trust. -/
def WithR (s d : Nat) (T R : Tree) : Prop := deadT (lessT s d T) = false → R = lessT s d T

/-- The contract of without. -/
def WithC (s d : Nat) : Prop := ∀ (P : Nat → Prop) (n : Int) (T : Tree) (x0 x1 x2 : Value) (w : World), TAt P d w x0 x1 x2 T → WF n d T →
    Calls Tryz.prog 125 #[.agg #[x0, x1, x2], .int .i64 (s : Int)] w fun e w' => ∃ y0 y1 y2, ∃ R, e = .returned (.tuple #[.agg #[y0, y1, y2], .bool (!deadT (lessT s d T))]) ∧ TAt (fun b => w.heap.size ≤ b) d w' y0 y1 y2 R ∧ WithR s d T R ∧ Below w.heap.size w w'

set_option maxRecDepth 100000 in
set_option maxHeartbeats 8000000 in
theorem with_step (s d : Nat) (hs : s < 1024) (ih : WithC s d) : WithC s (d + 1) := by
  intro P n T x0 x1 x2 w h hWF
  obtain ⟨thr, ns, is⟩ := T
  obtain ⟨i0, hin, hz0, hz1, hz2⟩ := info_parts infoInt
  obtain ⟨i3, hi3, hy0, hy1, hy2⟩ := info_parts infoTrust
  obtain ⟨rfl, hn, hi, hN, hL⟩ := h.parts
  obtain ⟨A, c, rfl⟩ := hN.slice
  obtain ⟨B, c', rfl⟩ := hL.slice
  obtain ⟨ht0, ht1, hl10, hl3, _, _, hWi⟩ := hWF
  obtain ⟨t0, rfl⟩ := Int.eq_ofNat_of_zero_le (show 0 ≤ thr by omega)
  have HWI := Lib.hid hWi
  have HT1 := Lib.hid (show t0 ≤ 13 by omega)
  clear ht1
  have HI := Lib.hid ih
  have hb2 : Below w.heap.size w ((w.alloc (.cells #[.int .i64 (t0 : Int), .slice A ns.length c, .slice B is.length c'] 73)).alloc (.cells #[.int .i64 0, .slice none 0 0, .slice none 0 0] 73)) := balloc (balloc (bref w) _) _
  have k0 : ((w.alloc (.cells #[.int .i64 (t0 : Int), .slice A ns.length c, .slice B is.length c'] 73)).alloc (.cells #[.int .i64 0, .slice none 0 0, .slice none 0 0] 73)).heap[w.heap.size]? = some (.cells #[.int .i64 (t0 : Int), .slice A ns.length c, .slice B is.length c'] 73 (0, 0)) := alloc_on (alloc_at rfl)
  have k1 : OutAt ((w.alloc (.cells #[.int .i64 (t0 : Int), .slice A ns.length c, .slice B is.length c'] 73)).alloc (.cells #[.int .i64 0, .slice none 0 0, .slice none 0 0] 73)) (w.heap.size + 1) 0 (.slice none 0 0) (.slice none 0 0) := alloc_at (alloc_sz _ _)
  have hsz0 : ((w.alloc (.cells #[.int .i64 (t0 : Int), .slice A ns.length c, .slice B is.length c'] 73)).alloc (.cells #[.int .i64 0, .slice none 0 0, .slice none 0 0] 73)).heap.size = w.heap.size + 2 := by rw [alloc_sz, alloc_sz]
  have HN0 := Lib.hid ((hN.both (Q := fun b => b < w.heap.size) (fun _ _ _ => rfl) (fun k hk _ => hk)).below hb2)
  have HL0 := Lib.hid ((hL.both (Q := fun b => b < w.heap.size) (fun _ _ _ => rfl) (fun k hk _ => hk)).below hb2)
  have HB0 := Lib.hid hb2
  have K00 := Lib.hid k0
  have K10 := Lib.hid k1
  have hpos0 : ¬ (t0 : Int) ≤ 0 := by omega
  clear h hb2 k0 k1 hN hL hWi ih
  go_enter Tryz.func125, Tryz.ntmps125
  go_upto_region 1 with fail
  generalize ((w.alloc (.cells #[.int .i64 (t0 : Int), .slice A ns.length c, .slice B is.length c'] 73)).alloc (.cells #[.int .i64 0, .slice none 0 0, .slice none 0 0] 73)) = W0 at *
  generalize hg : w.heap.size = g at *
  have HG := Lib.hid hg
  clear hg
  have b0 : W0.cell? ⟨g, 0, none⟩ = some (.int .i64 (t0 : Int)) := cell_of_row _ _ 0 _ _ (0, 0) K00.out
  have hbA := balloc (bref W0) (.cells #[.int .i64 (t0 : Int), .slice none 0 0, .slice none 0 0] 73)
  have HN := Lib.hid (HN0.out.below hbA)
  have HL := Lib.hid (HL0.out.below hbA)
  have HB := Lib.hid (show Below g w (W0.alloc (.cells #[.int .i64 (t0 : Int), .slice none 0 0, .slice none 0 0] 73)) from by have h1 := HB0.out; exact h1.trans (hbA.mono (by omega)))
  have K0 := Lib.hid (alloc_on (o := .cells #[.int .i64 (t0 : Int), .slice none 0 0, .slice none 0 0] 73) K00.out)
  have K1 := Lib.hid (K10.out.keep (hbA.block _ K10.out.lt))
  have K2 := Lib.hid (show OutAt (W0.alloc (.cells #[.int .i64 (t0 : Int), .slice none 0 0, .slice none 0 0] 73)) (g + 2) (t0 : Int) (.slice none 0 0) (.slice none 0 0) from alloc_at hsz0)
  have hsz : (W0.alloc (.cells #[.int .i64 (t0 : Int), .slice none 0 0, .slice none 0 0] 73)).heap.size = g + 3 := by rw [alloc_sz, hsz0]
  clear hbA HN0 HL0 HB0 K00 K10
  go_upto_region 4 with fail
  generalize W0.alloc (.cells #[.int .i64 (t0 : Int), .slice none 0 0, .slice none 0 0] 73) = W1 at *
  clear b0 hsz0
  have b1 : W1.cell? ⟨g, 1, none⟩ = some (.slice A ns.length c) := cell_of_row _ _ 1 _ _ (0, 0) K0.out
  go_wp2_with fail
  clear b1
  go_loopw [23] (fun t W => ∃ (j : Nat) (v : Value), j ≤ ns.length ∧ t = .int .i64 j ∧ W.ownsRow (g + 3) 3 1 v (fN s (ns.take j)).length ((fN s (ns.take j)).map (Value.int .i64)) ∧ Hid (OutAt W (g + 2) ((t0 : Int) - (cnt (hasB (s : Int)) (ns.take j) : Nat)) v (.slice none 0 0)) ∧ Hid (W1.grownBy W (some (g + 2)))) (fun t _ => ns.length - (intOf t).toNat)
  case atStart => exact ⟨0, .slice none 0 0, by omega, rfl, World.ownsRow_nil _ _ _ _, K2, Lib.hid (World.grownBy.refl _ _)⟩
  case round =>
    obtain ⟨j, v, hj, rfl, hown, hO, hGr⟩ := hrel
    have hwr := hGr.out.size
    obtain ⟨o0, o1, o2⟩ := hO.out.cs
    have of0 := hO.out.fr 0
    have of1 := hO.out.fr 1
    have hol := hO.out.lt
    by_cases hlt : j < ns.length
    · obtain ⟨An, cn, hAn, hNc⟩ := HN.out
      injection hAn with hA1 hA2 hA3
      subst hA1
      subst hA3
      obtain ⟨b, off, rfl, hP, hc⟩ := hNc j hlt
      have hx0 : ns[j]? = some (ns.getD j 0) := by rw [List.getD_eq_getElem?_getD, List.getElem?_eq_getElem hlt]; rfl
      generalize ns.getD j 0 = x at *
      have d1 := (World.cell?_of_block (a := ⟨b, off + j, none⟩) (hGr.out.block b (by omega) (by simp; omega))).trans hc
      have HC := Lib.hid (cnt_take1 (p := hasB (s : Int)) hx0)
      have HF := Lib.hid (fN_take (s := s) hx0)
      have hfl := Nat.le_trans (fN_len s (ns.take j)) (by rw [List.length_take]; exact Nat.min_le_right _ _)
      clear hc hNc hx0
      cases hb : hasB (s : Int) x
      · rw [hb] at HC HF
        rw [if_neg (by simp)] at HC HF
        go_wp2_with fail
        refine (has_run _ _ _).mono ?_
        rintro e w2 ⟨rfl, rfl⟩
        rw [hb]
        have HOB := Lib.hid (fun (q : Nat) (hq : v.ownBlock = some q) => (hown.lt q hq).1)
        go_wp2_with (at_builtin; refine wpList_append_own _ rfl _ _ 22 rfl (g + 3) 3 i0 (.int .i64 0) 1 8 Tryz.underlying22 hin hz0 hz1 hz2 rfl (by decide) _ _ _ rfl (hown.alloc _) ⟨wr.heap.size, 0, none⟩ 1 1 [.int .i64 x] rfl rfl (cell_one_new _ _ _) (fun u hu => by simp at hu; subst hu; rfl) (by unfold maxLen; omega) (by omega) (by simp; omega) ?_; intro v' W2 hown' hgrow hnil; obtain ⟨gq, cq, rfl, hgq, hlq⟩ := hown'.form (by omega); have hO3 := hO.out.keep ((hgrow.block _ (by simp; omega) (fun e => by have := HOB.out _ e.symm; omega)).trans (Below.heap_alloc _ _ _ hol)); obtain ⟨p0, p1, p2⟩ := hO3.cs; have pf1 := hO3.fr 1)
        have hown4 := hown'.kept (gset1 W2 ⟨g + 2, 1, none⟩ (.slice (some ⟨gq, 0, none⟩) ((fN s (ns.take j)).length + 1) cq)) (.inr (by simp [Value.ownBlock]; omega))
        have HOW4 := Lib.hid (own_snoc hown4)
        have HG3 := Lib.hid (grown_at (gown (grown_trans hGr.out (grown_below (balloc (bref wr) (.cells #[.int .i64 x] 3)))) hgrow (fun q hq => by have := HOB.out q hq; omega)) 1 (.slice (some ⟨gq, 0, none⟩) ((fN s (ns.take j)).length + 1) cq))
        have HO4 := Lib.hid (hO3.set1 (.slice (some ⟨gq, 0, none⟩) ((fN s (ns.take j)).length + 1) cq))
        clear hown' hgrow hnil hown hown4
        go_roundw
        case rel => exact ⟨j + 1, _, by omega, by go_num, by rw [HF.out]; simpa using HOW4.out, by rw [HC.out]; exact HO4, HG3⟩
        case measure => simp [intOf]; omega
      · rw [hb] at HC HF
        rw [if_pos rfl] at HC HF
        have HOWN := Lib.hid hown
        have hcl := Nat.le_trans (cnt_le (hasB (s : Int)) (ns.take j)) (by rw [List.length_take]; exact Nat.min_le_right _ _)
        have HSUB := Lib.hid (show (t0 : Int) - (cnt (hasB (s : Int)) (ns.take (j + 1)) : Nat) = (t0 : Int) - (cnt (hasB (s : Int)) (ns.take j) : Nat) - 1 by have := HC.out; omega)
        have hq0 : -20 ≤ (t0 : Int) - (cnt (hasB (s : Int)) (ns.take j) : Nat) := by omega
        have hq1 : (t0 : Int) - (cnt (hasB (s : Int)) (ns.take j) : Nat) ≤ 20 := by have := HT1.out; omega
        generalize (t0 : Int) - (cnt (hasB (s : Int)) (ns.take j) : Nat) = m0 at *
        have HO4 := Lib.hid (hO.out.set0 (m0 - 1))
        have HG3 := Lib.hid (grown_at hGr.out 0 (.int .i64 (m0 - 1)))
        have HOW4 := Lib.hid (HOWN.out.kept (gset1 wr ⟨g + 2, 0, none⟩ (.int .i64 (m0 - 1))) (own_below HOWN.out (by simp)))
        clear hown
        go_wp2_with fail
        refine (has_run _ _ _).mono ?_
        rintro e w2 ⟨rfl, rfl⟩
        rw [hb]
        go_wp2_with fail
        go_roundw
        case rel => exact ⟨j + 1, v, by omega, by go_num, by rw [HF.out, List.append_nil]; exact HOW4.out, by rw [HSUB.out]; exact HO4, HG3⟩
        case measure => simp [intOf]; omega
    · obtain rfl : j = ns.length := by omega
      rw [List.take_length] at hown hO
      have HTK := Lib.hid (show cnt (hasB (s : Int)) (ns.take ns.length) = cnt (hasB (s : Int)) ns by rw [List.take_length])
      have hcl := cnt_le (hasB (s : Int)) ns
      generalize hm0 : (t0 : Int) - (cnt (hasB (s : Int)) ns : Nat) = m0 at *
      have hm13 : m0 ≤ 13 := by have := HT1.out; omega
      have hm10 : -10 ≤ m0 := by omega
      have HM0 := Lib.hid hm0
      clear hm0 hcl
      obtain ⟨A1, c1, rfl⟩ := own_slice hown
      have HOWN := Lib.hid hown
      have HO0 := hO
      have HG0 := hGr
      have b2 : wr.cell? ⟨g, 2, none⟩ = some (.slice B is.length c') := (World.cell?_of_block (a := ⟨g, 2, none⟩) (hGr.out.block g (by omega) (by simp))).trans (cell_of_row _ _ 2 _ _ (0, 0) K0.out)
      clear hown of0 of1 o0 o1 o2
      have hL1l := Nat.le_trans (fN_len s ns) hl10
      generalize hL1 : fN s ns = L1 at *
      have HL1 := Lib.hid hL1
      clear hL1
      go_wp2_with fail
      clear b2
      go_loopw [44] (fun t W => ∃ (j : Nat) (v2 : Value), j ≤ is.length ∧ t = .int .i64 j ∧ Hid (W.ownsRow (g + 3) 3 1 (.slice A1 L1.length c1) L1.length (L1.map (Value.int .i64))) ∧ Hid (Inner (g + 3) d W v2 (fI s d (is.take j))) ∧ Hid (OutAt W (g + 2) (m0 - (cnt (fun T => deadT (lessT s d T)) (is.take j) : Nat)) (.slice A1 L1.length c1) v2) ∧ Hid (W1.grownBy W (some (g + 2)))) (fun t _ => is.length - (intOf t).toNat)
      case atStart => exact ⟨0, .slice none 0 0, by omega, rfl, HOWN, Lib.hid (Inner.nil _ _ _), Lib.hid (by simpa [cnt] using HO0.out), HG0⟩
      case round =>
        clear HOWN HO0 HG0 hO hGr hwr hol
        obtain ⟨j, v2, hj, rfl, hOW, hInn, hO, hGr⟩ := hrel
        have hwr := hGr.out.size
        obtain ⟨o0, o1, o2⟩ := hO.out.cs
        have of0 := hO.out.fr 0
        have of2 := hO.out.fr 2
        have hol := hO.out.lt
        by_cases hlt : j < is.length
        · obtain ⟨Bn, cn, hBn, hLc⟩ := HL.out
          injection hBn with hA1 hA2 hA3
          subst hA1
          subst hA3
          obtain ⟨T, hT⟩ : ∃ T, is[j]? = some T := ⟨_, List.getElem?_eq_getElem hlt⟩
          obtain ⟨b, off, x0, x1, x2, rfl, hP, e0, e1, e2, hTk⟩ := hLc j T hT
          obtain ⟨t', A', n', ca, B', m', cb, rfl, rfl, rfl⟩ := hTk.form
          have lw := hGr.out.block b (by omega) (by simp; omega)
          have d0 := (World.cell?_of_block (a := ⟨b, off + j * 3, none⟩) lw).trans e0
          have d1 := (World.cell?_of_block (a := ⟨b, off + j * 3 + 1, none⟩) lw).trans e1
          have d2 := (World.cell?_of_block (a := ⟨b, off + j * 3 + 2, none⟩) lw).trans e2
          have hTr : TAt (fun b => b < g) d wr (.int .i64 t') (.slice A' n' ca) (.slice B' m' cb) T := hTk.keep (fun q hq hP => hGr.out.block q hq (by simp; omega))
          have HTb := Lib.hid (hTr.below (balloc (bref wr) (.cells #[.int .i64 t', .slice A' n' ca, .slice B' m' cb] 73)))
          have HWT := Lib.hid (HWI.out T (List.mem_of_getElem? hT))
          have HC := Lib.hid (cnt_take1 (p := fun T => deadT (lessT s d T)) hT)
          have HF := Lib.hid (fI_take (s := s) (d := d) hT)
          have hfl := Nat.le_trans (fI_len s d (is.take j)) (by rw [List.length_take]; exact Nat.min_le_right _ _)
          have HOWB := Lib.hid (fun q (hq : v2.ownBlock = some q) => (hInn.out.own q hq).2)
          have HGr := hGr
          have HO := hO
          clear lw e0 e1 e2 hTr hTk hLc hT hGr hO of0 of2 o0 o1 o2
          go_wp2_with fail
          refine (HI.out _ n T _ _ _ _ HTb.out HWT.out).mono ?_
          rintro e W2 ⟨y0, y1, y2, R2, rfl, hT2, hR2, hb2⟩
          obtain ⟨t2, A2, n2, c2, B2, m2, c3, rfl, rfl, rfl⟩ := hT2.form
          have HR2 := Lib.hid hR2
          clear hR2
          have hbA := balloc (bstep (balloc (bref wr) (.cells #[.int .i64 t', .slice A' n' ca, .slice B' m' cb] 73)) hb2) (.cells #[.int .i64 t2, .slice A2 n2 c2, .slice B2 m2 c3] 73)
          have k3 : (W2.alloc (.cells #[.int .i64 t2, .slice A2 n2 c2, .slice B2 m2 c3] 73)).heap[W2.heap.size]? = some (.cells #[.int .i64 t2, .slice A2 n2 c2, .slice B2 m2 c3] 73 (0, 0)) := alloc_at rfl
          have HT3 := Lib.hid (TAt.both (Q := fun b => wr.heap.size ≤ b) (fun _ _ _ => rfl) (fun q _ hq => by simp at hq; omega) _ _ _ _ _ (hT2.below (balloc (bref W2) (.cells #[.int .i64 t2, .slice A2 n2 c2, .slice B2 m2 c3] 73))))
          have HK3 := Lib.hid k3
          have HO3 := Lib.hid (HO.out.keep (hbA.block _ hol))
          have HOW3 := Lib.hid (own_bel hOW.out hbA)
          have HI3 := Lib.hid (hInn.out.below hbA)
          have HG3 := Lib.hid (grown_trans HGr.out (grown_below hbA))
          have HS3 := Lib.hid hbA.size
          clear hT2 hb2 hbA k3 d0 d1 d2
          go_upto_region 15 with fail
          generalize W2.alloc (.cells #[.int .i64 t2, .slice A2 n2 c2, .slice B2 m2 c3] 73) = W3 at *
          generalize W2.heap.size = r3 at *
          have r0 : W3.cell? ⟨r3, 0, none⟩ = some (.int .i64 t2) := cell_of_row _ _ 0 _ _ (0, 0) HK3.out
          have r1 : W3.cell? ⟨r3, 1, none⟩ = some (.slice A2 n2 c2) := cell_of_row _ _ 1 _ _ (0, 0) HK3.out
          have r2 : W3.cell? ⟨r3, 2, none⟩ = some (.slice B2 m2 c3) := cell_of_row _ _ 2 _ _ (0, 0) HK3.out
          obtain ⟨o0, o1, o2⟩ := HO3.out.cs
          have of0 := HO3.out.fr 0
          have of2 := HO3.out.fr 2
          have hol3 := HO3.out.lt
          cases hdd : deadT (lessT s d T)
          · rw [hdd] at HC HF
            rw [if_neg (by simp)] at HC HF
            have hR2 := HR2.out hdd
            subst hR2
            obtain ⟨cs, hcs, hcl⟩ := HI3.out
            have hcn := hcs.1
            have HOWI := Lib.hid (fun q (hq : v2.ownBlock = some q) => (hcs.lt q hq).1)
            have HCS3 := Lib.hid hcs
            have HCSA := Lib.hid (hcs.alloc (.cells #[.int .i64 t2, .slice A2 n2 c2, .slice B2 m2 c3] 73))
            have HNEW := Lib.hid (cell_three_new W3 (.int .i64 t2) (.slice A2 n2 c2) (.slice B2 m2 c3) 73)
            have HBA4 := Lib.hid (balloc (bref W3) (.cells #[.int .i64 t2, .slice A2 n2 c2, .slice B2 m2 c3] 73))
            have HSZ4 := Lib.hid (alloc_sz W3 (.cells #[.int .i64 t2, .slice A2 n2 c2, .slice B2 m2 c3] 73))
            have HCL := Lib.hid hcl
            clear hcs hcl hdd
            rw [Bool.not_false]
            go_wp2_with (at_builtin; refine wpList_append_lies _ rfl _ _ 71 rfl (g + 3) 73 i3 (.agg #[.int .i64 0, .slice none 0 0, .slice none 0 0]) 3 56 Tryz.underlying71 hi3 hy0 hy1 hy2 rfl (by decide) _ (fI s d (is.take j)).length cs rfl (by exact HCSA.out) ⟨_, 0, none⟩ 1 1 [.int .i64 t2, .slice A2 n2 c2, .slice B2 m2 c3] rfl rfl (by exact HNEW.out) (by intro u hu; simp at hu; rcases hu with rfl | rfl | rfl <;> rfl) (by omega) (by unfold maxLen; omega) (by omega) (by have := HSZ4.out; omega) _ rfl ?_; intro g4 cap4 W5 hown4 hgrow4 hat4 hlt4; have hO5 := HO3.out.keep ((hgrow4.block (g + 2) (by have := HSZ4.out; omega) (fun e => by have := HOWI.out _ e.symm; omega)).trans (HBA4.out.block (g + 2) hol3)); obtain ⟨s0, s1, s2⟩ := hO5.cs; have sf2 := hO5.fr 2)
            have hgB : (W3.alloc (.cells #[.int .i64 t2, .slice A2 n2 c2, .slice B2 m2 c3] 73)).grownBy W5 v2.ownBlock := ⟨hgrow4.os, hgrow4.tape, hgrow4.output, hgrow4.size, hgrow4.block⟩
            have hI5 := Inner.append (W := W3.alloc (.cells #[.int .i64 t2, .slice A2 n2 c2, .slice B2 m2 c3] 73)) (fun k T hT => by
                obtain ⟨z0, z1, z2, e0, e1, e2, e3⟩ := HCL.out k T hT
                exact ⟨z0, z1, z2, e0, e1, e2, e3.below HBA4.out⟩) hcn
              ((HT3.out.below HBA4.out).imp (fun q _ hq => ⟨by omega, fun e => by have := (HCS3.out.lt q e).2; have := HOWB.out q e; omega⟩)) hown4 hgB hat4
            have HI5 := Lib.hid (hI5.setLow (p := ⟨g + 2, 2, none⟩) (by simp) (.slice (some ⟨g4, 0, none⟩) ((fI s d (is.take j)).length + 1) cap4))
            have HO5 := Lib.hid (hO5.set2 (.slice (some ⟨g4, 0, none⟩) ((fI s d (is.take j)).length + 1) cap4))
            have HG5 := Lib.hid (grown_at (gown (grown_trans HG3.out (grown_below HBA4.out)) hgB (fun q hq => by have := HOWI.out q hq; omega)) 2 (.slice (some ⟨g4, 0, none⟩) ((fI s d (is.take j)).length + 1) cap4))
            have hOWA := own_bel HOW3.out HBA4.out
            have HOW5 := Lib.hid ((hOWA.kept hgB (own_apart hOWA HCSA.out)).kept (gset1 W5 ⟨g + 2, 2, none⟩ (.slice (some ⟨g4, 0, none⟩) ((fI s d (is.take j)).length + 1) cap4)) (own_below (hOWA.kept hgB (own_apart hOWA HCSA.out)) (by simp)))
            clear hown4 hgrow4 hat4 hlt4 hgB hI5 hO5 hOWA s0 s1 s2 sf2
            have HCE := Lib.hid (show cnt (fun T => deadT (lessT s d T)) (is.take (j + 1)) = cnt (fun T => deadT (lessT s d T)) (is.take j) by have := HC.out; omega)
            go_roundw
            case rel => exact ⟨j + 1, _, by omega, by go_num, HOW5, by rw [HF.out]; exact HI5, by rw [HCE.out]; exact HO5, HG5⟩
            case measure => simp [intOf]; omega
          · rw [hdd] at HC HF
            rw [if_pos rfl] at HC HF
            have HSUB := Lib.hid (show m0 - (cnt (fun T => deadT (lessT s d T)) (is.take (j + 1)) : Nat) = m0 - (cnt (fun T => deadT (lessT s d T)) (is.take j) : Nat) - 1 by have := HC.out; omega)
            have hcl := Nat.le_trans (cnt_le (fun T => deadT (lessT s d T)) (is.take j)) (by rw [List.length_take]; exact Nat.min_le_right _ _)
            have hq0 : -20 ≤ m0 - (cnt (fun T => deadT (lessT s d T)) (is.take j) : Nat) := by omega
            have hq1 : m0 - (cnt (fun T => deadT (lessT s d T)) (is.take j) : Nat) ≤ 20 := by omega
            generalize m0 - (cnt (fun T => deadT (lessT s d T)) (is.take j) : Nat) = q0 at *
            clear hdd hcl
            rw [Bool.not_true]
            have HO4 := Lib.hid (HO3.out.set0 (q0 - 1))
            have HG4 := Lib.hid (grown_at HG3.out 0 (.int .i64 (q0 - 1)))
            have HOW4 := Lib.hid (HOW3.out.kept (gset1 W3 ⟨g + 2, 0, none⟩ (.int .i64 (q0 - 1))) (own_below HOW3.out (by simp)))
            have HI4 := Lib.hid (HI3.out.setLow (p := ⟨g + 2, 0, none⟩) (by simp) (.int .i64 (q0 - 1)))
            go_wp2_with fail
            go_roundw
            case rel => exact ⟨j + 1, v2, by omega, by go_num, HOW4, by rw [HF.out, List.append_nil]; exact HI4, by rw [HSUB.out]; exact HO4, HG4⟩
            case measure => simp [intOf]; omega
        · obtain rfl : j = is.length := by omega
          obtain ⟨A2, c2, rfl⟩ := hInn.out.slice
          have HTI := Lib.hid (show fI s d (is.take is.length) = fI s d is by rw [List.take_length])
          have hR : OutAt wr (g + 1) 0 (.slice none 0 0) (.slice none 0 0) := K1.out.keep (hGr.out.block (g + 1) (by omega) (by simp))
          obtain ⟨r0, r1, r2⟩ := hR.cs
          have rf0 := hR.fr 0
          have rf1 := hR.fr 1
          have rf2 := hR.fr 2
          have HZB := Lib.hid (show Below w.heap.size w wr by
            have h1 := HB.out
            rw [← HG.out] at h1
            exact h1.grown hGr.out h1.size (fun q hq => by obtain rfl := Option.some.inj hq; have := HG.out; omega))
          have hfl := Nat.le_trans (fI_len s d (is.take is.length)) (by rw [List.length_take]; exact Nat.min_le_right _ _)
          have HLE := Lib.hid (show (!deadT (lessT s (d + 1) (.mk (t0 : Int) ns is))) = decide (0 < m0 - (cnt (fun T => deadT (lessT s d T)) (is.take is.length) : Nat)) ∧ WithR s (d + 1) (.mk (t0 : Int) ns is) (.mk (m0 - (cnt (fun T => deadT (lessT s d T)) (is.take is.length) : Nat)) L1 (fI s d (is.take is.length))) by
            rw [← HM0.out, ← HL1.out, List.take_length]
            have e1 : cnt deadT (is.map (lessT s d)) = cnt (fun T => deadT (lessT s d T)) is := by
              unfold cnt; rw [List.filter_map, List.length_map]; rfl
            have e2 : lessT s (d + 1) (.mk (t0 : Int) ns is) = .mk ((t0 - cnt (hasB (s : Int)) ns - cnt (fun T => deadT (lessT s d T)) is : Nat) : Int) (fN s ns) (fI s d is) := by
              show Tree.mk _ _ _ = _
              rw [e1]
              rfl
            unfold WithR
            rw [e2]
            have e3 : deadT (.mk ((t0 - cnt (hasB (s : Int)) ns - cnt (fun T => deadT (lessT s d T)) is : Nat) : Int) (fN s ns) (fI s d is)) = !decide (0 < (t0 : Int) - (cnt (hasB (s : Int)) ns : Nat) - (cnt (fun T => deadT (lessT s d T)) is : Nat)) := by
              unfold deadT
              rw [← decide_not]
              refine decide_eq_decide.2 ?_
              have key : ∀ (t a b : Nat), ((t - a - b : Nat) : Int) ≤ 0 ↔ ¬ (0 < (t : Int) - (a : Nat) - (b : Nat)) := by intros; omega
              exact key _ _ _
            rw [e3]
            refine ⟨by simp, fun h => ?_⟩
            have h1 : (0 : Int) < (t0 : Int) - (cnt (hasB (s : Int)) ns : Nat) - (cnt (fun T => deadT (lessT s d T)) is : Nat) := by simpa using h
            have h2 : ((t0 : Int) - (cnt (hasB (s : Int)) ns : Nat) - (cnt (fun T => deadT (lessT s d T)) is : Nat)) = ((t0 - cnt (hasB (s : Int)) ns - cnt (fun T => deadT (lessT s d T)) is : Nat) : Int) := by omega
            rw [h2])
          generalize m0 - (cnt (fun T => deadT (lessT s d T)) (is.take is.length) : Nat) = tz at *
          clear HTI
          generalize fI s d (is.take is.length) = L2 at *
          have HOW := hOW
          have HInn := hInn
          clear hOW hInn hR
          obtain ⟨s0, s1, s2⟩ := hO.out.cs
          go_wp2_with fail
          go_region
          go_wp2_with fail
          have K1' := ((HOW.out.kept (gset1 wr ⟨g + 1, 0, none⟩ (.int .i64 (tz : Int))) (own_below HOW.out (by simp))).kept (gset1 _ ⟨g + 1, 1, none⟩ (.slice A1 L1.length c1)) (own_below HOW.out (by simp))).kept (gset1 _ ⟨g + 1, 2, none⟩ (.slice A2 L2.length c2)) (own_below HOW.out (by simp))
          have K2' := ((HInn.out.setLow (p := ⟨g + 1, 0, none⟩) (by simp) (.int .i64 (tz : Int))).setLow (p := ⟨g + 1, 1, none⟩) (by simp) (.slice A1 L1.length c1)).setLow (p := ⟨g + 1, 2, none⟩) (by simp) (.slice A2 L2.length c2)
          have hgl := HG.out
          refine bodyPost_ret (v := .tuple #[.agg #[.int .i64 (tz : Int), .slice A1 L1.length c1, .slice A2 L2.length c2], .bool (decide (0 < tz))]) ?_ rfl ⟨_, _, _, _, by rw [HLE.out.1], ?_, HLE.out.2, ?_⟩
          · simp [results, Tryz.results125, go_sem, r0, r1, r2]
          · exact made (fun b hb => by omega) (by omega) (by omega) K1' K2'.drew
          · exact bdrew (bset (bset (bset HZB.out (p := ⟨g + 1, 0, none⟩) (by show w.heap.size ≤ g + 1; omega) _) (p := ⟨g + 1, 1, none⟩) (by show w.heap.size ≤ g + 1; omega) _) (p := ⟨g + 1, 2, none⟩) (by show w.heap.size ≤ g + 1; omega) _)

theorem with_run (s : Nat) (hs : s < 1024) : ∀ d, WithC s d
  | 0 => fun P n T x0 x1 x2 w h _ => h.elim
  | d + 1 => with_step s d hs (with_run s hs d)

end Go.Proofs.YtacpfcckilnbfaaGreat

namespace Go.Proofs.YtacpfcckilnbfaaGreat
set_option linter.unusedVariables false
set_option linter.unusedSimpArgs false
open Go.RowKit

set_option maxRecDepth 100000 in
set_option maxHeartbeats 2000000 in
theorem delT_run (P : Nat → Prop) (n : Int) (s k d : Nat) (T : Tree) (x0 x1 x2 : Value) (w : World) (hs : s < 1024) (h : TAt P (d + 1) w x0 x1 x2 T) (hWF : WF n (d + 1) T) :
    Calls Tryz.prog 96 #[.agg #[x0, x1, x2], .int .i64 (k : Int), .int .i64 (s : Int)] w fun e w' => ∃ y0 y1 y2, e = .returned (.agg #[y0, y1, y2]) ∧ TAt (fun b => w.heap.size ≤ b) (d + 1) w' y0 y1 y2 (delT s k (d + 1) T) ∧ Below w.heap.size w w' := by
  obtain ⟨t', A', n', ca, B', m', cb, rfl, rfl, rfl⟩ := h.form
  have hsv := Lib.hid (show setB (s : Int) = true from setB_iff.2 ⟨by omega, by omega⟩)
  have hb2 : Below w.heap.size w ((w.alloc (.cells #[.int .i64 t', .slice A' n' ca, .slice B' m' cb] 73)).alloc (.cells #[.int .i64 0, .slice none 0 0, .slice none 0 0] 73)) := balloc (balloc (bref w) _) _
  have k0 : ((w.alloc (.cells #[.int .i64 t', .slice A' n' ca, .slice B' m' cb] 73)).alloc (.cells #[.int .i64 0, .slice none 0 0, .slice none 0 0] 73)).heap[w.heap.size]? = some (.cells #[.int .i64 t', .slice A' n' ca, .slice B' m' cb] 73 (0, 0)) := alloc_on (alloc_at rfl)
  have k1 : OutAt ((w.alloc (.cells #[.int .i64 t', .slice A' n' ca, .slice B' m' cb] 73)).alloc (.cells #[.int .i64 0, .slice none 0 0, .slice none 0 0] 73)) (w.heap.size + 1) 0 (.slice none 0 0) (.slice none 0 0) := alloc_at (alloc_sz _ _)
  have HT := Lib.hid (h.below hb2)
  have HB := Lib.hid hb2
  have K0 := Lib.hid k0
  have K1 := Lib.hid k1
  have HW := Lib.hid hWF
  clear h hb2 k0 k1 hWF
  go_enter Tryz.func96, Tryz.ntmps96
  go_upto_region 1 with fail
  generalize ((w.alloc (.cells #[.int .i64 t', .slice A' n' ca, .slice B' m' cb] 73)).alloc (.cells #[.int .i64 0, .slice none 0 0, .slice none 0 0] 73)) = W1 at *
  generalize hg : w.heap.size = g at *
  have HG := Lib.hid hg
  clear hg
  have c0 : W1.cell? ⟨g, 0, none⟩ = some (.int .i64 t') := cell_of_row _ _ 0 _ _ (0, 0) K0.out
  have c1 : W1.cell? ⟨g, 1, none⟩ = some (.slice A' n' ca) := cell_of_row _ _ 1 _ _ (0, 0) K0.out
  have c2 : W1.cell? ⟨g, 2, none⟩ = some (.slice B' m' cb) := cell_of_row _ _ 2 _ _ (0, 0) K0.out
  have hol := K1.out.lt
  go_wp2_with fail
  refine (setValid_run _ _).mono ?_
  rintro e w2 ⟨rfl, rfl⟩
  rw [hsv.out]
  go_wp2_with fail
  refine (with_run s hs (d + 1) _ n T _ _ _ _ HT.out HW.out).mono ?_
  rintro e W2 ⟨y0, y1, y2, R2, rfl, hT2, hR2, hb2⟩
  obtain ⟨t2, A2, n2, c2', B2, m2, c3, rfl, rfl, rfl⟩ := hT2.form
  have HR2 := Lib.hid hR2
  have hbA := balloc hb2 (.cells #[.int .i64 t2, .slice A2 n2 c2', .slice B2 m2 c3] 73)
  have k3 : (W2.alloc (.cells #[.int .i64 t2, .slice A2 n2 c2', .slice B2 m2 c3] 73)).heap[W2.heap.size]? = some (.cells #[.int .i64 t2, .slice A2 n2 c2', .slice B2 m2 c3] 73 (0, 0)) := alloc_at rfl
  have HT3 := Lib.hid (hT2.below (balloc (bref W2) (.cells #[.int .i64 t2, .slice A2 n2 c2', .slice B2 m2 c3] 73)))
  have HK3 := Lib.hid k3
  have HO3 := Lib.hid (K1.out.keep (hbA.block _ hol))
  have HB3 := Lib.hid (show Below w.heap.size w (W2.alloc (.cells #[.int .i64 t2, .slice A2 n2 c2', .slice B2 m2 c3] 73)) by
    have h1 := HB.out
    rw [← HG.out] at h1
    exact bstep h1 hbA)
  have HS3 := Lib.hid hbA.size
  clear hT2 hb2 hbA k3 c0 c1 c2 hR2
  go_upto_region 4 with fail
  generalize W2.alloc (.cells #[.int .i64 t2, .slice A2 n2 c2', .slice B2 m2 c3] 73) = W3 at *
  generalize W2.heap.size = r3 at *
  have r0 : W3.cell? ⟨r3, 0, none⟩ = some (.int .i64 t2) := cell_of_row _ _ 0 _ _ (0, 0) HK3.out
  have r1 : W3.cell? ⟨r3, 1, none⟩ = some (.slice A2 n2 c2') := cell_of_row _ _ 1 _ _ (0, 0) HK3.out
  have r2 : W3.cell? ⟨r3, 2, none⟩ = some (.slice B2 m2 c3) := cell_of_row _ _ 2 _ _ (0, 0) HK3.out
  obtain ⟨o0, o1, o2⟩ := HO3.out.cs
  have of0 := HO3.out.fr 0
  have of1 := HO3.out.fr 1
  have of2 := HO3.out.fr 2
  have hol3 := HO3.out.lt
  have hgl := HG.out
  have HBG := Lib.hid (fun (W : World) (h : Below w.heap.size w W) => (by rw [← HG.out]; exact h : Below g w W))
  cases hdd : deadT (lessT s (d + 1) T)
  · obtain rfl := HR2.out hdd
    have HE := Lib.hid (show delT s k (d + 1) T = lessT s (d + 1) T by unfold delT; rw [hdd]; rfl)
    clear hdd
    try rw [Bool.not_false]
    try rw [Bool.not_true]
    go_wp2_with fail
    refine bodyPost_ret (v := .agg #[.int .i64 t2, .slice A2 n2 c2', .slice B2 m2 c3]) ?_ rfl ⟨_, _, _, rfl, ?_, ?_⟩
    · simp [results, Tryz.results96, go_sem, o0, o1, o2]
    · rw [HE.out]
      exact TAt.both (fun q hq hP => (Below.heap_setCell _ _ _ _ (by simp; omega)).trans ((Below.heap_setCell _ _ _ _ (by simp; omega)).trans (Below.heap_setCell _ _ _ _ (by simp; omega)))) (fun q _ hP => by omega) _ _ _ _ _ HT3.out
    · exact (bset (bset (bset HB3.out (p := ⟨g + 1, 0, none⟩) (by show w.heap.size ≤ g + 1; omega) _) (p := ⟨g + 1, 1, none⟩) (by show w.heap.size ≤ g + 1; omega) _) (p := ⟨g + 1, 2, none⟩) (by show w.heap.size ≤ g + 1; omega) _)
  · have HE := Lib.hid (show delT s k (d + 1) T = .mk 1 [(k : Int)] [] by unfold delT; rw [hdd]; rfl)
    clear hdd
    try rw [Bool.not_false]
    try rw [Bool.not_true]
    go_wp2_with fail
    refine bodyPost_ret (v := .agg #[.int .i64 1, .slice (some ⟨W3.heap.size, 0, none⟩) 1 1, .slice none 0 0]) ?_ rfl ⟨_, _, _, rfl, ?_, ?_⟩
    · simp [results, Tryz.results96, go_sem, o0, o1, o2, hol3]
    · rw [HE.out]
      refine ⟨rfl, by simp, by simp, ⟨some ⟨W3.heap.size, 0, none⟩, 1, rfl, fun j hj => ⟨W3.heap.size, 0, rfl, by omega, ?_⟩⟩, ⟨none, 0, rfl, fun k T hT => by simp at hT⟩⟩
      obtain rfl : j = 0 := by simpa using hj
      refine (cell_of_row _ _ 0 #[.int .i64 (k : Int)] 3 (0, 0) ?_)
      have := heap_alloc_new (((W3.setCell ⟨g + 1, 0, none⟩ (.int .i64 1)).setCell ⟨g + 1, 1, none⟩ (.slice (some ⟨W3.heap.size, 0, none⟩) 1 1)).setCell ⟨g + 1, 2, none⟩ (.slice none 0 0)) (.cells #[.int .i64 (k : Int)] 3)
      simpa using this
    · exact (balloc (bset (bset (bset HB3.out (p := ⟨g + 1, 0, none⟩) (by show w.heap.size ≤ g + 1; omega) _) (p := ⟨g + 1, 1, none⟩) (by show w.heap.size ≤ g + 1; omega) _) (p := ⟨g + 1, 2, none⟩) (by show w.heap.size ≤ g + 1; omega) _) _)

end Go.Proofs.YtacpfcckilnbfaaGreat

namespace Go.Proofs.YtacpfcckilnbfaaGreat
set_option linter.unusedVariables false
set_option linter.unusedSimpArgs false
open Go.RowKit

def mixL (s : Nat) (ms : List Mem) (k : Nat) : List Mem := (delM s ms).take k ++ ms.drop k

theorem mixL_len (s : Nat) (ms : List Mem) (k : Nat) : (mixL s ms k).length = ms.length := by
  unfold mixL
  rw [List.length_append, List.length_take, List.length_drop, delM_len]
  omega

theorem mixL_get {s k : Nat} {ms : List Mem} {m : Mem} (h : ms[k]? = some m) : (mixL s ms k)[k]? = some m := by
  have hl := (List.getElem?_eq_some_iff.1 h).1
  unfold mixL
  rw [List.getElem?_append_right (by rw [List.length_take, delM_len]; omega), List.length_take, delM_len, Nat.min_eq_left (by omega), Nat.sub_self, List.getElem?_drop]
  exact h

theorem mixL_set {s k : Nat} {ms : List Mem} {m : Mem} (h : ms[k]? = some m) : (mixL s ms k).set k (delOne s k m) = mixL s ms (k + 1) := by
  have hl := (List.getElem?_eq_some_iff.1 h).1
  have hm := (List.getElem?_eq_some_iff.1 h).2
  have e1 : ms.drop k = m :: ms.drop (k + 1) := by rw [← hm]; exact List.drop_eq_getElem_cons hl
  have e2 := delM_take (s := s) h
  have e3 : ((delM s ms).take k).length = k := by rw [List.length_take, delM_len]; omega
  unfold mixL
  rw [e1, e2, List.set_append_right _ _ (by omega), e3, Nat.sub_self, List.set_cons_zero, List.append_assoc]
  rfl

theorem mixL_same {s k : Nat} {ms : List Mem} {m : Mem} (h : ms[k]? = some m) (hd : delOne s k m = m) : mixL s ms (k + 1) = mixL s ms k := by
  rw [← mixL_set h, hd]
  have hg := mixL_get (s := s) h
  have hl := (List.getElem?_eq_some_iff.1 hg).1
  apply List.ext_getElem?
  intro i
  rcases (show i = k ∨ i ≠ k by omega) with rfl | hi
  · rw [List.getElem?_set_self hl, hg]
  · rw [List.getElem?_set_ne (by omega)]

/-- Another member in a row of members. -/
theorem GRow.put {Q : Nat → Prop} {B d gb n cap k : Nat} {W W' : World} {ms : List Mem} {m : Mem} {cs : List Value} {y0 y1 y2 : Value}
    (hk : k < ms.length) (hn : n = ms.length) (hown : W'.ownsRow B 75 4 (.slice (some ⟨gb, 0, none⟩) n cap) n cs)
    (hcs : ∀ j x, j ≠ k → ms[j]? = some x → ∃ x0 x1 x2, cs[j * 4]? = some (.bool x.1) ∧ cs[j * 4 + 1]? = some x0 ∧ cs[j * 4 + 2]? = some x1 ∧ cs[j * 4 + 3]? = some x2 ∧ TAt (fun b => Q b ∧ b ≠ gb) d W x0 x1 x2 x.2)
    (h0 : cs[k * 4]? = some (.bool m.1)) (h1 : cs[k * 4 + 1]? = some y0) (h2 : cs[k * 4 + 2]? = some y1) (h3 : cs[k * 4 + 3]? = some y2)
    (hT : TAt (fun b => Q b ∧ b ≠ gb) d W y0 y1 y2 m.2) (hfar : ∀ q, q ≠ gb → W'.heap[q]? = W.heap[q]?) : GRow Q B d W' (.slice (some ⟨gb, 0, none⟩) n cap) (ms.set k m) := by
  have up : ∀ {z0 z1 z2 : Value} {S : Tree}, TAt (fun b => Q b ∧ b ≠ gb) d W z0 z1 z2 S → TAt (fun b => Q b ∧ (Value.slice (some ⟨gb, 0, none⟩) n cap).ownBlock ≠ some b) d W' z0 z1 z2 S := fun h =>
    TAt.both (fun q _ hq => hfar q hq.2) (fun q _ hq => ⟨hq.1, fun e => hq.2 (by simp [Value.ownBlock] at e; omega)⟩) _ _ _ _ _ h
  refine ⟨cs, by rw [List.length_set, ← hn]; exact hown, fun j x hx => ?_⟩
  rcases Nat.lt_trichotomy j k with hj | hj | hj
  · rw [List.getElem?_set_ne (by omega)] at hx
    obtain ⟨x0, x1, x2, e0, e1, e2, e3, e4⟩ := hcs j x (by omega) hx
    exact ⟨x0, x1, x2, e0, e1, e2, e3, up e4⟩
  · subst hj
    rw [List.getElem?_set_self hk] at hx
    obtain rfl := Option.some.inj hx
    exact ⟨y0, y1, y2, h0, h1, h2, h3, up hT⟩
  · rw [List.getElem?_set_ne (by omega)] at hx
    obtain ⟨x0, x1, x2, e0, e1, e2, e3, e4⟩ := hcs j x (by omega) hx
    exact ⟨x0, x1, x2, e0, e1, e2, e3, up e4⟩

theorem GRow.open' {Q : Nat → Prop} {B d k : Nat} {W : World} {v : Value} {ms : List Mem} (h : GRow Q B d W v ms) (hk : k < ms.length) : ∃ gb cap cs, v = .slice (some ⟨gb, 0, none⟩) ms.length cap ∧ B ≤ gb ∧ W.ownsRow B 75 4 (.slice (some ⟨gb, 0, none⟩) ms.length cap) ms.length cs ∧
    ∀ j x, ms[j]? = some x → ∃ x0 x1 x2, cs[j * 4]? = some (.bool x.1) ∧ cs[j * 4 + 1]? = some x0 ∧ cs[j * 4 + 2]? = some x1 ∧ cs[j * 4 + 3]? = some x2 ∧ TAt (fun b => Q b ∧ b ≠ gb) d W x0 x1 x2 x.2 := by
  obtain ⟨cs, h1, h2⟩ := h
  have h1' := h1
  rcases h1.2 with ⟨hv, h0⟩ | ⟨g, cap, cur, hv, hb, _⟩
  · omega
  · subst hv
    refine ⟨g, cap, cs, rfl, hb, h1', fun j x hx => ?_⟩
    obtain ⟨x0, x1, x2, e0, e1, e2, e3, e4⟩ := h2 j x hx
    exact ⟨x0, x1, x2, e0, e1, e2, e3, e4.imp (fun q _ hq => ⟨hq.1, fun e => hq.2 (by rw [e]; rfl)⟩)⟩

/-- The world of Delete: the argument's box g, the result g + 1, the copy in box r. -/
structure DelW (w : World) (g r : Nat) (v0 v : Value) (ms L : List Mem) (W : World) : Prop where
  box : W.heap[g]? = some (.cells #[v0] 27 (0, 0))
  res : W.heap[g + 1]? = some (.cells #[.slice none 0 0] 27 (0, 0))
  out : W.heap[r]? = some (.cells #[v] 27 (0, 0))
  row : GRow (fun q => g + 2 ≤ q) (g + 2) 2 W v L
  old : MemsAt (fun q => q < g) 2 W v0 ms
  below : Below w.heap.size w W

theorem DelW.bel {w W W' : World} {g r : Nat} {v0 v : Value} {ms L : List Mem} (h : DelW w g r v0 v ms L W) (hb : Below W.heap.size W W') : DelW w g r v0 v ms L W' :=
  ⟨(hb.block _ (Array.getElem?_eq_some_iff.1 h.box).1).trans h.box, (hb.block _ (Array.getElem?_eq_some_iff.1 h.res).1).trans h.res, (hb.block _ (Array.getElem?_eq_some_iff.1 h.out).1).trans h.out, h.row.keep (fun q _ hq => hb.block q hq), h.old.below hb, bstep h.below hb⟩

/-- What changes the row's block alone. -/
theorem DelW.put {w W W' : World} {g r gb : Nat} {v0 v : Value} {ms L L' : List Mem} (h : DelW w g r v0 v ms L W) (hg : w.heap.size = g) (hgb : g + 2 ≤ gb) (hr : r ≠ gb) (hfar : ∀ q, q ≠ gb → W'.heap[q]? = W.heap[q]?) (hrow : GRow (fun q => g + 2 ≤ q) (g + 2) 2 W' v L') (hbel : Below w.heap.size w W') : DelW w g r v0 v ms L' W' :=
  ⟨(hfar g (by omega)).trans h.box, (hfar (g + 1) (by omega)).trans h.res, (hfar r hr).trans h.out, hrow, h.old.both (fun k _ hk => hfar k (by omega)) (fun k _ hk => hk), hbel⟩

/-- A member is stored whole. -/
theorem DelW.store4 {w W : World} {g r gb n cap k : Nat} {v0 : Value} {ms L : List Mem} {m : Mem} {y0 y1 y2 : Value} (h : DelW w g r v0 (.slice (some ⟨gb, 0, none⟩) n cap) ms L W) (hg : w.heap.size = g) (hr : r ≠ gb) (hk : k < L.length)
    (hT : TAt (fun q => g + 2 ≤ q ∧ q ≠ gb) 2 W y0 y1 y2 m.2) : DelW w g r v0 (.slice (some ⟨gb, 0, none⟩) n cap) ms (L.set k m) ((((W.setCell ⟨gb, k * 4, none⟩ (.bool m.1)).setCell ⟨gb, k * 4 + 1, none⟩ y0).setCell ⟨gb, k * 4 + 2, none⟩ y1).setCell ⟨gb, k * 4 + 3, none⟩ y2) := by
  obtain ⟨gb', cap', cs, hv, hgb, hown, hcs⟩ := h.row.open' hk
  injection hv with e1 e2 e3
  injection e1 with e1
  injection e1 with e1 _ _
  subst e1 e2 e3
  have hl := hown.1
  have far : ∀ q, q ≠ gb → ((((W.setCell ⟨gb, k * 4, none⟩ (.bool m.1)).setCell ⟨gb, k * 4 + 1, none⟩ y0).setCell ⟨gb, k * 4 + 2, none⟩ y1).setCell ⟨gb, k * 4 + 3, none⟩ y2).heap[q]? = W.heap[q]? := fun q hq =>
    (Below.heap_setCell _ _ _ _ (by simpa using hq)).trans ((Below.heap_setCell _ _ _ _ (by simpa using hq)).trans ((Below.heap_setCell _ _ _ _ (by simpa using hq)).trans (Below.heap_setCell _ _ _ _ (by simpa using hq))))
  refine h.put hg hgb hr far (GRow.put hk rfl ((((hown.stored (k * 4) (.bool m.1)).1.stored (k * 4 + 1) y0).1.stored (k * 4 + 2) y1).1.stored (k * 4 + 3) y2).1 (fun j x hj hx => ?_) ?_ ?_ ?_ ?_ hT far) ?_
  · obtain ⟨x0, x1, x2, a0, a1, a2, a3, a4⟩ := hcs j x hx
    refine ⟨x0, x1, x2, ?_, ?_, ?_, ?_, a4⟩
    · rw [List.getElem?_set_ne (by omega), List.getElem?_set_ne (by omega), List.getElem?_set_ne (by omega), List.getElem?_set_ne (by omega)]; exact a0
    · rw [List.getElem?_set_ne (by omega), List.getElem?_set_ne (by omega), List.getElem?_set_ne (by omega), List.getElem?_set_ne (by omega)]; exact a1
    · rw [List.getElem?_set_ne (by omega), List.getElem?_set_ne (by omega), List.getElem?_set_ne (by omega), List.getElem?_set_ne (by omega)]; exact a2
    · rw [List.getElem?_set_ne (by omega), List.getElem?_set_ne (by omega), List.getElem?_set_ne (by omega), List.getElem?_set_ne (by omega)]; exact a3
  · rw [List.getElem?_set_ne (by omega), List.getElem?_set_ne (by omega), List.getElem?_set_ne (by omega), List.getElem?_set_self (by omega)]
  · rw [List.getElem?_set_ne (by omega), List.getElem?_set_ne (by omega), List.getElem?_set_self (by first | omega | (simp; omega))]
  · rw [List.getElem?_set_ne (by omega), List.getElem?_set_self (by simp; omega)]
  · rw [List.getElem?_set_self (by simp; omega)]
  · exact bset (bset (bset (bset h.below (p := ⟨gb, k * 4, none⟩) (by show w.heap.size ≤ gb; omega) _) (p := ⟨gb, k * 4 + 1, none⟩) (by show w.heap.size ≤ gb; omega) _) (p := ⟨gb, k * 4 + 2, none⟩) (by show w.heap.size ≤ gb; omega) _) (p := ⟨gb, k * 4 + 3, none⟩) (by show w.heap.size ≤ gb; omega) _

/-- A declared member's trust is stored. -/
theorem DelW.store3 {w W : World} {g r gb n cap k : Nat} {v0 : Value} {ms L : List Mem} {m : Mem} {y0 y1 y2 : Value} (h : DelW w g r v0 (.slice (some ⟨gb, 0, none⟩) n cap) ms L W) (hg : w.heap.size = g) (hr : r ≠ gb) (hk : k < L.length) (hb : ∀ x, L[k]? = some x → x.1 = m.1)
    (hT : TAt (fun q => g + 2 ≤ q ∧ q ≠ gb) 2 W y0 y1 y2 m.2) : DelW w g r v0 (.slice (some ⟨gb, 0, none⟩) n cap) ms (L.set k m) (((W.setCell ⟨gb, k * 4 + 1, none⟩ y0).setCell ⟨gb, k * 4 + 2, none⟩ y1).setCell ⟨gb, k * 4 + 3, none⟩ y2) := by
  obtain ⟨gb', cap', cs, hv, hgb, hown, hcs⟩ := h.row.open' hk
  injection hv with e1 e2 e3
  injection e1 with e1
  injection e1 with e1 _ _
  subst e1 e2 e3
  have hl := hown.1
  have far : ∀ q, q ≠ gb → (((W.setCell ⟨gb, k * 4 + 1, none⟩ y0).setCell ⟨gb, k * 4 + 2, none⟩ y1).setCell ⟨gb, k * 4 + 3, none⟩ y2).heap[q]? = W.heap[q]? := fun q hq =>
    (Below.heap_setCell _ _ _ _ (by simpa using hq)).trans ((Below.heap_setCell _ _ _ _ (by simpa using hq)).trans (Below.heap_setCell _ _ _ _ (by simpa using hq)))
  refine h.put hg hgb hr far (GRow.put hk rfl (((hown.stored (k * 4 + 1) y0).1.stored (k * 4 + 2) y1).1.stored (k * 4 + 3) y2).1 (fun j x hj hx => ?_) ?_ ?_ ?_ ?_ hT far) ?_
  · obtain ⟨x0, x1, x2, a0, a1, a2, a3, a4⟩ := hcs j x hx
    refine ⟨x0, x1, x2, ?_, ?_, ?_, ?_, a4⟩
    · rw [List.getElem?_set_ne (by omega), List.getElem?_set_ne (by omega), List.getElem?_set_ne (by omega)]; exact a0
    · rw [List.getElem?_set_ne (by omega), List.getElem?_set_ne (by omega), List.getElem?_set_ne (by omega)]; exact a1
    · rw [List.getElem?_set_ne (by omega), List.getElem?_set_ne (by omega), List.getElem?_set_ne (by omega)]; exact a2
    · rw [List.getElem?_set_ne (by omega), List.getElem?_set_ne (by omega), List.getElem?_set_ne (by omega)]; exact a3
  · rw [List.getElem?_set_ne (by omega), List.getElem?_set_ne (by omega), List.getElem?_set_ne (by omega)]
    obtain ⟨x0, x1, x2, a0, _⟩ := hcs k _ (List.getElem?_eq_getElem hk)
    rw [a0, hb _ (List.getElem?_eq_getElem hk)]
  · rw [List.getElem?_set_ne (by omega), List.getElem?_set_ne (by omega), List.getElem?_set_self (by first | omega | (simp; omega))]
  · rw [List.getElem?_set_ne (by omega), List.getElem?_set_self (by simp; omega)]
  · rw [List.getElem?_set_self (by simp; omega)]
  · exact bset (bset (bset h.below (p := ⟨gb, k * 4 + 1, none⟩) (by show w.heap.size ≤ gb; omega) _) (p := ⟨gb, k * 4 + 2, none⟩) (by show w.heap.size ≤ gb; omega) _) (p := ⟨gb, k * 4 + 3, none⟩) (by show w.heap.size ≤ gb; omega) _

/-- The cells of the row at a member. -/
theorem DelW.cells {w W : World} {g r gb n cap k : Nat} {v0 : Value} {ms L : List Mem} (h : DelW w g r v0 (.slice (some ⟨gb, 0, none⟩) n cap) ms L W) (hk : k < L.length) :
    (∃ u, W.cell? ⟨gb, k * 4, none⟩ = some u) ∧ (∃ u, W.cell? ⟨gb, k * 4 + 1, none⟩ = some u) ∧ (∃ u, W.cell? ⟨gb, k * 4 + 2, none⟩ = some u) ∧ (∃ u, W.cell? ⟨gb, k * 4 + 3, none⟩ = some u) ∧ (∀ j, W.frozen? ⟨gb, j, none⟩ = false) ∧ gb < W.heap.size := by
  obtain ⟨gb', cap', cs, hv, hgb, hown, hcs⟩ := h.row.open' hk
  injection hv with e1 e2 e3
  injection e1 with e1
  injection e1 with e1 _ _
  subst e1 e2 e3
  have hl := hown.1
  refine ⟨⟨_, (hown.cellAt (k * 4) (by omega)).trans (List.getElem?_eq_getElem (by omega))⟩, ⟨_, (hown.cellAt (k * 4 + 1) (by omega)).trans (List.getElem?_eq_getElem (by omega))⟩, ⟨_, (hown.cellAt (k * 4 + 2) (by omega)).trans (List.getElem?_eq_getElem (by omega))⟩, ⟨_, (hown.cellAt (k * 4 + 3) (by omega)).trans (List.getElem?_eq_getElem (by omega))⟩, hown.frozenAt, (hown.lt gb rfl).2⟩

set_option maxRecDepth 100000 in
set_option maxHeartbeats 8000000 in
theorem pdelete_run (P : Nat → Prop) (ms : List Mem) (v : Value) (s : Nat) (w : World) (hl : ms.length ≤ 10) (hs : s < 1024) (h : MemsAt P 2 w v ms) (hok : MemsOk ms.length ms) :
    Calls Tryz.prog 53 #[.agg #[v], .int .i64 (s : Int)] w fun e w' => ∃ v', e = .returned (.agg #[v']) ∧ MemsAt (fun b => w.heap.size ≤ b) 2 w' v' (delM s ms) ∧ Below w.heap.size w w' := by
  obtain ⟨A, c, rfl⟩ := h.slice
  have hsv := Lib.hid (show setB (s : Int) = true from setB_iff.2 ⟨by omega, by omega⟩)
  have hb2 : Below w.heap.size w ((w.alloc (.cells #[.slice A ms.length c] 27)).alloc (.cells #[.slice none 0 0] 27)) := balloc (balloc (bref w) _) _
  have k0 : ((w.alloc (.cells #[.slice A ms.length c] 27)).alloc (.cells #[.slice none 0 0] 27)).heap[w.heap.size]? = some (.cells #[.slice A ms.length c] 27 (0, 0)) := alloc_on (alloc_at rfl)
  have k1 : ((w.alloc (.cells #[.slice A ms.length c] 27)).alloc (.cells #[.slice none 0 0] 27)).heap[w.heap.size + 1]? = some (.cells #[.slice none 0 0] 27 (0, 0)) := alloc_at (alloc_sz _ _)
  have hsz : ((w.alloc (.cells #[.slice A ms.length c] 27)).alloc (.cells #[.slice none 0 0] 27)).heap.size = w.heap.size + 2 := by rw [alloc_sz, alloc_sz]
  have H := Lib.hid ((h.both (Q := fun b => b < w.heap.size) (fun _ _ _ => rfl) (fun k hk _ => hk)).below hb2)
  have HB := Lib.hid hb2
  have K0 := Lib.hid k0
  have K1 := Lib.hid k1
  have HOK := Lib.hid hok
  clear h hb2 k0 k1 hok
  go_enter Tryz.func53, Tryz.ntmps53
  go_upto_region 1 with fail
  generalize ((w.alloc (.cells #[.slice A ms.length c] 27)).alloc (.cells #[.slice none 0 0] 27)) = W1 at *
  generalize hg : w.heap.size = g at *
  have HG := Lib.hid hg
  clear hg
  have c0 : W1.cell? ⟨g, 0, none⟩ = some (.slice A ms.length c) := cell_of_row _ _ 0 _ _ (0, 0) K0.out
  go_wp2_with fail
  refine (pconfig_run 2 _ _ ms _ hl H.out).mono ?_
  rintro e W2 ⟨v', rfl, hR, hb⟩
  have hms := hR.mems (P := fun _ => True) (fun _ _ => trivial)
  obtain ⟨A2, c2, rfl⟩ := hms.slice
  have hbA := balloc hb (.cells #[.slice A2 ms.length c2] 27)
  have HD := Lib.hid (show DelW w g W2.heap.size (.slice A ms.length c) (.slice A2 ms.length c2) ms (mixL s ms 0) (W2.alloc (.cells #[.slice A2 ms.length c2] 27)) from by
    refine ⟨(hbA.block g (by omega)).trans K0.out, (hbA.block (g + 1) (by omega)).trans K1.out, alloc_at rfl, ?_, H.out.below hbA, ?_⟩
    · have h1 := hR.keep (W' := W2.alloc (.cells #[.slice A2 ms.length c2] 27)) (fun q _ hq => Below.heap_alloc _ _ _ hq)
      obtain ⟨cs, h3, h4⟩ := h1
      rw [show mixL s ms 0 = ms from rfl]
      exact ⟨cs, own_down h3 (by omega), fun k m hm => by
        obtain ⟨x0, x1, x2, e0, e1, e2, e3, e4⟩ := h4 k m hm
        exact ⟨x0, x1, x2, e0, e1, e2, e3, e4.imp (fun q _ hP => ⟨by have := hP.1; omega, hP.2⟩)⟩⟩
    · have h1 := HB.out
      rw [← HG.out] at h1
      exact h1.trans (hbA.mono (by have := HG.out; omega)))
  have hrl : W2.heap.size < (W2.alloc (.cells #[.slice A2 ms.length c2] 27)).heap.size := by rw [alloc_sz]; omega
  have hbs := hb.size
  have HNE := Lib.hid (show ∀ gb, (Value.slice A2 ms.length c2).ownBlock = some gb → gb < W2.heap.size from fun gb hgb => (hR.own gb hgb).2)
  clear hms hR hb hbA c0
  go_upto_region 2 with fail
  generalize W2.alloc (.cells #[.slice A2 ms.length c2] 27) = W3 at *
  generalize W2.heap.size = r at *
  go_wp2_with fail
  refine (setValid_run _ _).mono ?_
  rintro e w2 ⟨rfl, rfl⟩
  rw [hsv.out]
  have c0 : W3.cell? ⟨g, 0, none⟩ = some (.slice A ms.length c) := cell_of_row _ _ 0 _ _ (0, 0) HD.out.box
  go_wp2_with fail
  clear c0
  go_loopw [17] (fun t W => ∃ k : Nat, k ≤ ms.length ∧ t = .int .i64 k ∧ Hid (DelW w g r (.slice A ms.length c) (.slice A2 ms.length c2) ms (mixL s ms k) W)) (fun t _ => ms.length - (intOf t).toNat)
  case atStart => exact ⟨0, Nat.zero_le _, rfl, HD⟩
  case round =>
    clear HD hrl
    obtain ⟨k, hk, rfl, hD⟩ := hrel
    by_cases hlt : k < ms.length
    · obtain ⟨m, hm⟩ : ∃ m, ms[k]? = some m := ⟨_, List.getElem?_eq_getElem hlt⟩
      obtain ⟨A', c', hv, hc⟩ := hD.out.old
      injection hv with hv1 hv2 hv3
      subst hv1
      obtain ⟨b, off, x0, x1, x2, rfl, hPb, e0, e1, e2, e3, hTk⟩ := hc k m hm
      obtain ⟨t', A1, n1, c1, B1, m1, c1', rfl, rfl, rfl⟩ := hTk.form
      obtain ⟨bm, T⟩ := m
      have hM := HOK.out _ (List.mem_of_getElem? hm)
      have HM1 := Lib.hid hM.1
      have HM2 := Lib.hid hM.2
      have HX := Lib.hid hm
      have hkk : k < 10 := by omega
      clear hc hM hm hv2 hv3
      have hbl := cell_lt e0
      have hbx : (wr.alloc (.cells #[.bool bm, .int .i64 t', .slice A1 n1 c1, .slice B1 m1 c1'] 75)).heap[wr.heap.size]? = some (.cells #[.bool bm, .int .i64 t', .slice A1 n1 c1, .slice B1 m1 c1'] 75 (0, 0)) := alloc_at rfl
      have hbA := balloc (bref wr) (.cells #[.bool bm, .int .i64 t', .slice A1 n1 c1, .slice B1 m1 c1'] 75)
      have hD4 := Lib.hid (hD.out.bel hbA)
      have HT4 := Lib.hid ((hTk.below hbA))
      have hrw : r < wr.heap.size := (Array.getElem?_eq_some_iff.1 hD.out.out).1
      have hgw : g + 1 < wr.heap.size := (Array.getElem?_eq_some_iff.1 hD.out.res).1
      clear hbA hTk hD
      go_upto_region 7 with fail
      generalize wr.alloc (.cells #[.bool bm, .int .i64 t', .slice A1 n1 c1, .slice B1 m1 c1'] 75) = W4 at *
      generalize wr.heap.size = r7 at *
      clear e0 e1 e2 e3 hbl
      obtain ⟨gb, cap, cs0, hv, hgb, hown, hcs⟩ := hD4.out.row.open' (by rw [mixL_len]; exact hlt : k < (mixL s ms k).length)
      injection hv with hv1 hv2 hv3
      subst hv1
      have hgr : gb < r := HNE.out gb rfl
      clear hown hcs hv2 hv3
      have hkl : k < (mixL s ms k).length := by rw [mixL_len]; exact hlt
      have q0 : W4.cell? ⟨r, 0, none⟩ = some (.slice (some ⟨gb, 0, none⟩) ms.length c2) := cell_of_row _ _ 0 _ _ (0, 0) hD4.out.out
      have hbit := hasB_bit hs hkk
      cases hb : s.testBit k
      · rw [hb] at hbit
        have f0 : W4.cell? ⟨r7, 0, none⟩ = some (.bool bm) := cell_of_row _ _ 0 _ _ (0, 0) hbx
        cases bm
        · have hsame := mixL_same (s := s) HX.out (by unfold delOne; rw [hbit]; rfl)
          go_wp2_with fail
          refine (has_run _ _ _).mono ?_
          rintro e w2 ⟨rfl, rfl⟩
          rw [hbit]
          go_wp2_with fail
          go_roundw
          case rel => exact ⟨k + 1, by omega, by go_num, by rw [hsame]; exact hD4⟩
          case measure => simp [intOf]; omega
        · have f1 : W4.cell? ⟨r7, 1, none⟩ = some (.int .i64 t') := cell_of_row _ _ 1 _ _ (0, 0) hbx
          have f2 : W4.cell? ⟨r7, 2, none⟩ = some (.slice A1 n1 c1) := cell_of_row _ _ 2 _ _ (0, 0) hbx
          have f3 : W4.cell? ⟨r7, 3, none⟩ = some (.slice B1 m1 c1') := cell_of_row _ _ 3 _ _ (0, 0) hbx
          have HWT := Lib.hid (HM1.out rfl)
          go_wp2_with fail
          refine (has_run _ _ _).mono ?_
          rintro e w2 ⟨rfl, rfl⟩
          rw [hbit]
          go_upto_region 10 with fail
          have hDd := Lib.hid (hD4.out.bel (W' := W4.drew) ⟨rfl, rfl, rfl, Nat.le_refl _, fun _ _ => rfl⟩)
          have HTd := Lib.hid (HT4.out.below (w' := W4.drew) ⟨rfl, rfl, rfl, Nat.le_refl _, fun _ _ => rfl⟩)
          go_region_with ((go_at_call 96; refine (delT_run _ ms.length s k 1 T _ _ _ _ hs (by exact HTd.out) HWT.out).mono ?_; rintro e W5 ⟨y0, y1, y2, rfl, hT5, hb5⟩; obtain ⟨t2, E1, n2, d1, E2, n3, d2, rfl, rfl, rfl⟩ := hT5.form; have hD5 := Lib.hid (hDd.out.bel (W' := W5) hb5); have HT5 := Lib.hid hT5; have q5 := cell_of_row W5 r 0 _ _ (0, 0) hD5.out.out; obtain ⟨⟨u0, p0⟩, ⟨u1, p1⟩, ⟨u2, p2⟩, ⟨u3, p3⟩, hfz, hgl⟩ := hD5.out.cells hkl; have z1 := hfz (k * 4 + 1); have z2 := hfz (k * 4 + 2); have z3 := hfz (k * 4 + 3)))
          all_goals
            have hset := hD5.out.store3 (k := k) (m := (true, delT s k 2 T)) HG.out (by omega) hkl (fun x hx => by rw [mixL_get HX.out] at hx; rw [← Option.some.inj hx]) (HT5.out.imp (fun q _ hq => by
              have h1 : W4.heap.size ≤ q := hq
              have h2 : r < W4.heap.size := (Array.getElem?_eq_some_iff.1 hD4.out.out).1
              have h3 : g + 1 < W4.heap.size := (Array.getElem?_eq_some_iff.1 hD4.out.res).1
              omega))
            rw [show (mixL s ms k).set k (true, delT s k 2 T) = mixL s ms (k + 1) by rw [← mixL_set HX.out]; unfold delOne; rw [hbit]; rfl] at hset
            have HSET := Lib.hid hset
            clear hset hfz
            go_wp2_with fail
            go_roundw
            case rel => exact ⟨k + 1, by omega, by go_num, by first | exact HSET | exact Lib.hid (HSET.out.bel ⟨rfl, rfl, rfl, Nat.le_refl _, fun _ _ => rfl⟩)⟩
            case measure => simp [intOf]; omega
      · rw [hb] at hbit
        obtain ⟨⟨u0, p0⟩, ⟨u1, p1⟩, ⟨u2, p2⟩, ⟨u3, p3⟩, hfz, hgl⟩ := hD4.out.cells hkl
        have z0 := hfz (k * 4)
        have z1 := hfz (k * 4 + 1)
        have z2 := hfz (k * 4 + 2)
        have z3 := hfz (k * 4 + 3)
        have hset := hD4.out.store4 (k := k) (m := (false, .mk 0 [] [])) (y0 := .int .i64 0) (y1 := .slice none 0 0) (y2 := .slice none 0 0) HG.out (by omega) hkl (TAt.empty _ 1 _ none none 0 0)
        rw [show (mixL s ms k).set k (false, .mk 0 [] []) = mixL s ms (k + 1) by rw [← mixL_set HX.out]; unfold delOne; rw [hbit]; rfl] at hset
        have HSET := Lib.hid hset
        clear hset hfz
        go_wp2_with fail
        refine (has_run _ _ _).mono ?_
        rintro e w2 ⟨rfl, rfl⟩
        rw [hbit]
        go_wp2_with fail
        go_roundw
        case rel => exact ⟨k + 1, by omega, by go_num, HSET⟩
        case measure => simp [intOf]; omega
    · obtain rfl : k = ms.length := by omega
      have hfull : mixL s ms ms.length = delM s ms := by
        unfold mixL
        rw [List.drop_length, List.append_nil, ← delM_len s ms, List.take_length]
      rw [hfull] at hD
      have z0 : wr.cell? ⟨g + 1, 0, none⟩ = some (.slice none 0 0) := cell_of_row _ _ 0 _ _ (0, 0) hD.out.res
      have zf : wr.frozen? ⟨g + 1, 0, none⟩ = false := by simp [World.frozen?, hD.out.res]
      have q0 : wr.cell? ⟨r, 0, none⟩ = some (.slice A2 ms.length c2) := cell_of_row _ _ 0 _ _ (0, 0) hD.out.out
      have hzl := cell_lt z0
      go_wp2_with fail
      refine bodyPost_ret (v := .agg #[.slice A2 ms.length c2]) ?_ rfl ⟨_, rfl, ?_, ?_⟩
      · simp [results, Tryz.results53, go_sem, z0]
      · have hk := hD.out.row.keep (W' := wr.setCell ⟨g + 1, 0, none⟩ (.slice A2 ms.length c2)) (fun q hq _ => Below.heap_setCell _ _ _ _ (by simp; omega))
        exact hk.mems (fun q hq => by have := HG.out; omega)
      · exact bset hD.out.below (p := ⟨g + 1, 0, none⟩) (by show w.heap.size ≤ g + 1; have := HG.out; omega) _

end Go.Proofs.YtacpfcckilnbfaaGreat

namespace Go.Proofs.YtacpfcckilnbfaaGreat
set_option linter.unusedVariables false
set_option linter.unusedSimpArgs false
open Go.RowKit

theorem bgrownD {w a b : World} {sb : Nat} (h : Below w.heap.size w a) (hg : a.grownBy b (some sb)) (hs : w.heap.size ≤ sb) : Below w.heap.size w b :=
  h.grown hg h.size (fun k hk => by cases hk; exact hs)

/-- What holds of the world of a law that has made a trust: the tape, the trust in its block g. -/
structure MadeAt (w : World) (g d : Nat) (t : Int) (v1 v2 : Value) (T : Tree) (W : World) : Prop where
  tape : TapeOk W w.heap.size
  out : OutAt W g t v1 v2
  tat : TAt (fun b => w.heap.size < b) d W (.int .i64 t) v1 v2 T
  low : w.heap.size < g
  below : Below w.heap.size w W

theorem MadeAt.bel {w W W' : World} {g d : Nat} {t : Int} {v1 v2 : Value} {T : Tree} (h : MadeAt w g d t v1 v2 T W) (hb : Below W.heap.size W W') : MadeAt w g d t v1 v2 T W' :=
  ⟨h.tape.below hb, h.out.keep (hb.block _ h.out.lt), h.tat.below hb, h.low, bstep h.below hb⟩

theorem MadeAt.grown {w W W' : World} {g d : Nat} {t : Int} {v1 v2 : Value} {T : Tree} (h : MadeAt w g d t v1 v2 T W) (hs : TapeOk W' w.heap.size) (hg : W.grownBy W' (some w.heap.size)) : MadeAt w g d t v1 v2 T W' :=
  ⟨hs, h.out.keep (hg.block _ h.out.lt (by have := h.low; simp; omega)), h.tat.keep (fun q hq hP => hg.block q hq (by simp; omega)), h.low, bgrownD h.below hg (Nat.le_refl _)⟩

theorem MadeAt.drew {w W : World} {g d : Nat} {t : Int} {v1 v2 : Value} {T : Tree} (h : MadeAt w g d t v1 v2 T W) : MadeAt w g d t v1 v2 T W.drew := h.bel ⟨rfl, rfl, rfl, Nat.le_refl _, fun _ _ => rfl⟩

theorem cnt_same {α β : Type} (P : α → Bool) (f : α → β) (dead good : β → Bool) : ∀ (l : List α), (∀ x ∈ l, P x = true ↔ dead (f x) = true ∨ good (f x) = true) → cnt P l = cnt dead (l.map f) + cnt good ((l.map f).filter (fun y => !dead y))
  | [], _ => by simp [cnt]
  | x :: l, h => by
    have ih := cnt_same P f dead good l (fun y hy => h y (List.mem_cons_of_mem _ hy))
    have h1 := h x List.mem_cons_self
    unfold cnt at *
    rw [List.map_cons, List.filter_cons, List.filter_cons, List.filter_cons]
    cases hd : dead (f x) <;> cases hp : P x <;> cases hg : good (f x) <;> simp [hd, hp, hg] at h1 <;> simp [List.filter_cons, hg] <;> simp at ih <;> omega

theorem holds_less {n : Int} {s : Nat} {p q : Int → Bool} (h : ∀ x, 0 ≤ x → x < n → (p x = true ↔ hasB (s : Int) x = true ∨ q x = true)) : ∀ (d : Nat) (T : Tree), WF n d T → (holdsT d p T = true ↔ deadT (lessT s d T) = true ∨ holdsT d q (lessT s d T) = true)
  | 0, T, w => w.elim
  | d + 1, .mk thr ns is, w => by
    obtain ⟨h1, _, _, _, h5, _, hi⟩ := w
    have e1 := cnt_same p id (hasB (s : Int)) q ns (fun x hx => h x (h5 x hx).1 (h5 x hx).2)
    have e2 := cnt_same (holdsT d p) (lessT s d) deadT (holdsT d q) is (fun T hT => holds_less h d T (hi T hT))
    rw [List.map_id] at e1
    show decide (thr ≤ ((cnt p ns + cnt (holdsT d p) is : Nat) : Int)) = true ↔ decide ((((thr.toNat - cnt (hasB (s : Int)) ns - cnt deadT (is.map (lessT s d)) : Nat)) : Int) ≤ 0) = true ∨ decide ((((thr.toNat - cnt (hasB (s : Int)) ns - cnt deadT (is.map (lessT s d)) : Nat)) : Int) ≤ ((cnt q (ns.filter (fun k => !hasB (s : Int) k)) + cnt (holdsT d q) ((is.map (lessT s d)).filter (fun T => !deadT T)) : Nat) : Int)) = true
    rw [decide_eq_true_iff, decide_eq_true_iff, decide_eq_true_iff, e1, e2]
    omega

theorem del_holds {n : Int} {s k : Nat} {p q : Int → Bool} (hk : q (k : Int) = true) (h : ∀ x, 0 ≤ x → x < n → (p x = true ↔ hasB (s : Int) x = true ∨ q x = true)) (d : Nat) (T : Tree) (w : WF n (d + 1) T) : holdsT (d + 1) q (delT s k (d + 1) T) = holdsT (d + 1) p T := by
  rw [Bool.eq_iff_iff, holds_less h _ _ w]
  unfold delT
  cases hd : deadT (lessT s (d + 1) T)
  · simp
  · rw [if_pos rfl]
    have : holdsT (d + 1) q (.mk 1 [(k : Int)] []) = true := by
      show decide ((1 : Int) ≤ ((cnt q [(k : Int)] + cnt (holdsT d q) [] : Nat) : Int)) = true
      unfold cnt
      simp [List.filter_cons, hk]
    simp [this]

theorem sat_of {d : Nat} {T : Tree} {s : Nat} (hs : s < 1024) : satB d T (s : Int) = holdsT d (hasB (s : Int)) T := by
  unfold satB
  rw [setB_iff.2 ⟨by omega, by omega⟩, Bool.true_and]

/-- What deletion means. -/
theorem del_means {n : Int} (hn : n ≤ 10) {g k z y : Nat} {d : Nat} {T : Tree} (w : WF n (d + 1) T) (hg : g < 1024) (hz : z < 1024) (hy : y < 1024) (hk : k < 10) (hkz : z.testBit k = true) (hb : ∀ K, K < 10 → y.testBit K = (g.testBit K || z.testBit K)) : satB (d + 1) (delT g k (d + 1) T) (z : Int) = satB (d + 1) T (y : Int) := by
  rw [sat_of hz, sat_of hy]
  refine del_holds (by rw [hasB_bit hz hk]; exact hkz) (fun x h0 h1 => ?_) d T w
  obtain ⟨X, rfl⟩ := Int.eq_ofNat_of_zero_le h0
  rw [hasB_bit hy (by omega), hasB_bit hg (by omega), hasB_bit hz (by omega), hb X (by omega), Bool.or_eq_true]

end Go.Proofs.YtacpfcckilnbfaaGreat

namespace Go.Proofs.YtacpfcckilnbfaaGreat
set_option linter.unusedVariables false
set_option linter.unusedSimpArgs false
open Go.RowKit

theorem decl_one (s k : Nat) (m : Mem) : (delOne s k m).1 = (m.1 && !hasB (s : Int) (k : Int)) := by
  unfold delOne
  cases h : hasB (s : Int) (k : Int)
  · obtain ⟨b, T⟩ := m
    cases b <;> simp
  · simp

theorem decl_del {ms : List Mem} {s : Nat} (hl : ms.length ≤ 10) (hs : s < 1024) : declS (delM s ms) (delM s ms).length = minS (declS ms ms.length) s := by
  apply Nat.eq_of_testBit_eq
  intro k
  rw [minS_bit, declS_iff, declS_iff, delM_len]
  rcases Nat.lt_or_ge k ms.length with hk | hk
  · have hm : ms[k]? = some (ms[k]'hk) := List.getElem?_eq_getElem hk
    have hd := delM_get (s := s) hm
    rw [List.getD_eq_getElem?_getD, hd, List.getD_eq_getElem?_getD, hm]
    simp only [Option.getD_some, hk, decide_true, Bool.true_and]
    rw [decl_one, hasB_bit hs (by omega)]
  · rw [decide_eq_false (by omega)]; rfl

theorem trOf_get {ms : List Mem} {k : Nat} {m : Mem} (h : ms[k]? = some m) : trOf ms k = m.2 := by
  unfold trOf
  rw [List.getD_eq_getElem?_getD, h]; rfl

theorem trOf_del {ms : List Mem} {s k : Nat} {m : Mem} (hs : s < 1024) (hk : k < 10) (h : ms[k]? = some m) (hd : m.1 = true) (hb : s.testBit k = false) : trOf (delM s ms) k = delT s k 2 m.2 := by
  rw [trOf_get (delM_get h)]
  unfold delOne
  rw [hasB_bit hs hk, hb, hd]
  simp

theorem uns_iff {d : Nat} {ms : List Mem} {s k : Nat} (hs : s < 1024) (hk : k < 10) : uns d ms s k = (s.testBit k && !satB d (trOf ms k) (s : Int)) := by
  unfold uns
  rw [hasB_bit hs hk]

/-- Is each member of y, below k, satisfied by o? -/
def allF (ms : List Mem) (y o : Nat) (b : Bool) : Nat → Bool
  | 0 => b
  | k + 1 => allF ms y o b k && !(y.testBit k && !satB 2 (trOf ms k) (o : Int))

end Go.Proofs.YtacpfcckilnbfaaGreat

namespace Go.Proofs.YtacpfcckilnbfaaGreat.D3
set_option linter.unusedVariables false
set_option linter.unusedSimpArgs false
open Go.RowKit

def delOne (s k : Nat) (m : Mem) : Mem := if hasB (s : Int) (k : Int) then (false, .mk 0 [] []) else if m.1 then (true, delT s k 3 m.2) else m

def delM (s : Nat) (ms : List Mem) : List Mem := ms.mapIdx (fun k m => delOne s k m)

theorem delM_len (s : Nat) (ms : List Mem) : (delM s ms).length = ms.length := by unfold delM; simp

theorem delM_get {s : Nat} {ms : List Mem} {k : Nat} {m : Mem} (h : ms[k]? = some m) : (delM s ms)[k]? = some (delOne s k m) := by
  unfold delM
  rw [List.getElem?_mapIdx, h]; rfl

theorem delM_ok {s : Nat} {ms : List Mem} (h : MemsOk ms.length ms) : MemsOk (delM s ms).length (delM s ms) := by
  intro x hx
  obtain ⟨k, hk, he⟩ := List.getElem_of_mem hx
  rw [delM_len] at hk ⊢
  have hm : ms[k]? = some ms[k] := List.getElem?_eq_getElem hk
  have h1 := delM_get (s := s) hm
  rw [List.getElem?_eq_getElem (by rw [delM_len]; exact hk), he] at h1
  have hx1 : x = delOne s k ms[k] := Option.some.inj h1
  have h0 := h ms[k] (List.getElem_mem hk)
  rw [hx1]
  unfold delOne
  cases hb : hasB (s : Int) (k : Int)
  · simp only [Bool.false_eq_true, if_false]
    cases hd : ms[k].1
    · simp only [Bool.false_eq_true, if_false]; exact h0
    · simp only [if_true]
      exact ⟨fun _ => delT_wf (by omega) (h0.1 hd), fun h => (by cases h)⟩
  · simp only [if_true]
    exact ⟨fun h => (by cases h), fun _ => trivial⟩

theorem delM_take {s k : Nat} {ms : List Mem} {m : Mem} (h : ms[k]? = some m) : (delM s ms).take (k + 1) = (delM s ms).take k ++ [delOne s k m] := take_one (delM_get h)

set_option maxRecDepth 100000 in
set_option maxHeartbeats 8000000 in
theorem rdelete_run (P : Nat → Prop) (ms : List Mem) (v : Value) (s : Nat) (w : World) (hl : ms.length ≤ 10) (hs : s < 1024) (h : MemsAt P 3 w v ms) (hok : MemsOk ms.length ms) :
    Calls Tryz.prog 28 #[.agg #[v], .int .i64 (s : Int)] w fun e w' => ∃ v', e = .returned (.agg #[v']) ∧ MemsAt (fun b => w.heap.size ≤ b) 3 w' v' (delM s ms) ∧ Below w.heap.size w w' := by
  obtain ⟨A, c, rfl⟩ := h.slice
  have hsv := Lib.hid (show setB (s : Int) = true from setB_iff.2 ⟨by omega, by omega⟩)
  obtain ⟨i4, hi4, hy0, hy1, hy2⟩ := info_parts infoMember
  have hb3 : Below w.heap.size w (((w.alloc (.cells #[.slice A ms.length c] 27)).alloc (.cells #[.slice none 0 0] 27)).alloc (.cells #[.slice none 0 0] 27)) := balloc (balloc (balloc (bref w) _) _) _
  have k0 : (((w.alloc (.cells #[.slice A ms.length c] 27)).alloc (.cells #[.slice none 0 0] 27)).alloc (.cells #[.slice none 0 0] 27)).heap[w.heap.size]? = some (.cells #[.slice A ms.length c] 27 (0, 0)) := alloc_on (alloc_on (alloc_at rfl))
  have k1 : (((w.alloc (.cells #[.slice A ms.length c] 27)).alloc (.cells #[.slice none 0 0] 27)).alloc (.cells #[.slice none 0 0] 27)).heap[w.heap.size + 1]? = some (.cells #[.slice none 0 0] 27 (0, 0)) := alloc_on (alloc_at (alloc_sz _ _))
  have k2 : (((w.alloc (.cells #[.slice A ms.length c] 27)).alloc (.cells #[.slice none 0 0] 27)).alloc (.cells #[.slice none 0 0] 27)).heap[w.heap.size + 2]? = some (.cells #[.slice none 0 0] 27 (0, 0)) := alloc_at (by rw [alloc_sz, alloc_sz])
  have hsz : (((w.alloc (.cells #[.slice A ms.length c] 27)).alloc (.cells #[.slice none 0 0] 27)).alloc (.cells #[.slice none 0 0] 27)).heap.size = w.heap.size + 3 := by rw [alloc_sz, alloc_sz, alloc_sz]
  have H := Lib.hid ((h.both (Q := fun b => b < w.heap.size) (fun _ _ _ => rfl) (fun k hk _ => hk)).below hb3)
  have HB := Lib.hid hb3
  have K0 := Lib.hid k0
  have K1 := Lib.hid k1
  have K2 := Lib.hid k2
  have HOK := Lib.hid hok
  clear h hb3 k0 k1 k2 hok
  go_enter Tryz.func28, Tryz.ntmps28
  go_upto_region 1 with fail
  go_wp2_with fail
  refine (rsetValid_run _ _).mono ?_
  rintro e w2 ⟨rfl, rfl⟩
  rw [hsv.out]
  go_upto_region 4 with fail
  generalize (((w.alloc (.cells #[.slice A ms.length c] 27)).alloc (.cells #[.slice none 0 0] 27)).alloc (.cells #[.slice none 0 0] 27)) = W1 at *
  generalize hg : w.heap.size = g at *
  have HG := Lib.hid hg
  clear hg
  have c0 : W1.cell? ⟨g, 0, none⟩ = some (.slice A ms.length c) := cell_of_row _ _ 0 _ _ (0, 0) K0.out
  go_wp2_with fail
  clear c0
  go_loopw [15] (fun t W => ∃ (k : Nat) (v : Value), k ≤ ms.length ∧ t = .int .i64 k ∧ Hid (GRow (fun b => g + 3 ≤ b) (g + 3) 3 W v ((delM s ms).take k)) ∧ Hid (W.heap[g + 2]? = some (.cells #[v] 27 (0, 0))) ∧ Hid (W1.grownBy W (some (g + 2)))) (fun t _ => ms.length - (intOf t).toNat)
  case atStart => exact ⟨0, .slice none 0 0, by omega, rfl, Lib.hid (GRow.nil _ _ _ _), K2, Lib.hid (World.grownBy.refl _ _)⟩
  case round =>
    obtain ⟨k, v, hk, rfl, hRow, hOut, hGr⟩ := hrel
    have hwr := hGr.out.size
    by_cases hlt : k < ms.length
    · obtain ⟨m, hm⟩ : ∃ m, ms[k]? = some m := ⟨_, List.getElem?_eq_getElem hlt⟩
      obtain ⟨b, off, t, A1, n1, c1, A2, n2, c2, rfl, hP, hbl, e0, e1, e2, e3, hT⟩ := memBox H.out hm
      have lw := hGr.out.block b hbl (by simp; omega)
      have d0 := (World.cell?_of_block (a := ⟨b, off + k * 4, none⟩) lw).trans e0
      have d1 := (World.cell?_of_block (a := ⟨b, off + k * 4 + 1, none⟩) lw).trans e1
      have d2 := (World.cell?_of_block (a := ⟨b, off + k * 4 + 2, none⟩) lw).trans e2
      have d3 := (World.cell?_of_block (a := ⟨b, off + k * 4 + 3, none⟩) lw).trans e3
      have hTr := hT.keep (w' := wr) (fun q hq hP => hGr.out.block q hq (by simp; omega))
      have HTK := Lib.hid (delM_take (s := s) hm)
      have HTL := Lib.hid (show ((delM s ms).take k).length = k by rw [List.length_take, delM_len]; omega)
      generalize List.take k (delM s ms) = Lk at *
      have hmo := HOK.out m (List.mem_of_getElem? hm)
      have HM1 := Lib.hid hmo.1
      have HM2 := Lib.hid hmo.2
      have hbit := hasB_bit hs (show k < 10 by omega)
      have HDO := Lib.hid (show delOne s k m = if hasB (s : Int) (k : Int) then (false, .mk 0 [] []) else if m.1 then (true, delT s k 3 m.2) else m from rfl)
      generalize delOne s k m = mo at *
      obtain ⟨dec, T⟩ := m
      have hba := balloc (bref wr) (.cells #[.bool dec, .int .i64 t, .slice A1 n1 c1, .slice A2 n2 c2] 75)
      have kx : (wr.alloc (.cells #[.bool dec, .int .i64 t, .slice A1 n1 c1, .slice A2 n2 c2] 75)).heap[wr.heap.size]? = some (.cells #[.bool dec, .int .i64 t, .slice A1 n1 c1, .slice A2 n2 c2] 75 (0, 0)) := alloc_at rfl
      have HKX := Lib.hid kx
      have HTX := Lib.hid (hTr.below hba)
      have HGX := Lib.hid (grown_trans hGr.out (grown_below hba))
      have HLX := Lib.hid (fun q (hq : q < wr.heap.size) => hba.block q hq)
      have HRW := hRow
      have HOW := hOut
      have HROX := Lib.hid (fun q (hq : v.ownBlock = some q) => (hRow.out.own q hq))
      have hwl : g + 3 ≤ wr.heap.size := by omega
      have HSX := Lib.hid (alloc_sz wr (.cells #[.bool dec, .int .i64 t, .slice A1 n1 c1, .slice A2 n2 c2] 75))
      clear hba kx hTr hT hm hmo hRow hOut hGr lw e0 e1 e2 e3
      go_upto_region 7 with fail
      generalize wr.alloc (.cells #[.bool dec, .int .i64 t, .slice A1 n1 c1, .slice A2 n2 c2] 75) = W3 at *
      generalize hrq : wr.heap.size = r at *
      have HRQ := Lib.hid hrq
      clear hrq
      have r0 : W3.cell? ⟨r, 0, none⟩ = some (.bool dec) := cell_of_row _ _ 0 _ _ (0, 0) HKX.out
      have r1 : W3.cell? ⟨r, 1, none⟩ = some (.int .i64 t) := cell_of_row _ _ 1 _ _ (0, 0) HKX.out
      have r2 : W3.cell? ⟨r, 2, none⟩ = some (.slice A1 n1 c1) := cell_of_row _ _ 2 _ _ (0, 0) HKX.out
      have r3 : W3.cell? ⟨r, 3, none⟩ = some (.slice A2 n2 c2) := cell_of_row _ _ 3 _ _ (0, 0) HKX.out
      have rf : ∀ j, W3.frozen? ⟨r, j, none⟩ = false := fun j => by simp [World.frozen?, HKX.out]
      have rf0 := rf 0
      have rf1 := rf 1
      have rf2 := rf 2
      have rf3 := rf 3
      have hrl := cell_lt r0
      have hszx := HSX.out
      clear rf d0 d1 d2 d3
      cases hb : s.testBit k
      · rw [hb] at hbit
        rw [hbit] at HDO
        rw [if_neg (by simp)] at HDO
        cases dec
        · obtain rfl := HM2.out rfl
          rw [if_neg (show ¬ (false = true) by simp)] at HDO
          obtain ⟨ht, _, _, hN, hL⟩ := HTX.out.parts
          obtain ⟨A3, c3, hv1⟩ := hN.slice
          obtain ⟨A4, c5, hv2⟩ := hL.slice
          cases ht
          cases hv1
          cases hv2
          clear hN hL
          go_wp2_with fail
          refine (rhas_run _ _ _).mono ?_
          rintro e w2 ⟨rfl, rfl⟩
          rw [hbit]
          go_upto_region 11 with fail
          have K6 := Lib.hid (show W3.heap[r]? = some (.cells #[.bool false, .int .i64 0, .slice A1 0 c1, .slice A2 0 c2] 75 (0, 0)) from HKX.out)
          have L6 := HLX
          clear hszx
          have HT6 := Lib.hid (TAt.empty (fun b => g + 3 ≤ b ∧ v.ownBlock ≠ some b) 2 W3 A1 A2 c1 c2)
          have HG6 := HGX
          have HMO := HDO
          clear r0 r1 r2 r3 rf0 rf1 rf2 rf3
          have x0 : W3.cell? ⟨r, 0, none⟩ = some (.bool false) := cell_of_row _ _ 0 _ _ (0, 0) K6.out
          have x1 : W3.cell? ⟨r, 1, none⟩ = some (.int .i64 0) := cell_of_row _ _ 1 _ _ (0, 0) K6.out
          have x2 : W3.cell? ⟨r, 2, none⟩ = some (.slice A1 0 c1) := cell_of_row _ _ 2 _ _ (0, 0) K6.out
          have x3 : W3.cell? ⟨r, 3, none⟩ = some (.slice A2 0 c2) := cell_of_row _ _ 3 _ _ (0, 0) K6.out
          have hcb6 : W3.heap[g + 2]? = some (.cells #[v] 27 (0, 0)) := (L6.out (g + 2) (by omega)).trans HOW.out
          have q2 : W3.cell? ⟨g + 2, 0, none⟩ = some v := cell_of_row _ _ 0 _ _ (0, 0) hcb6
          have HCB6 := Lib.hid hcb6
          have hR6 := HRW.out.keep (W' := W3) (fun q _ hq => L6.out q (by rw [← HRQ.out]; exact hq))
          obtain ⟨cs, hcs, hcl⟩ := hR6
          have hcn := hcs.1
          have HCSA := Lib.hid (hcs.alloc (.cells #[.bool false, .int .i64 0, .slice A1 0 c1, .slice A2 0 c2] 75))
          have HNEW := Lib.hid (cell_four_new W3 (.bool false) (.int .i64 0) (.slice A1 0 c1) (.slice A2 0 c2) 75)
          have HBA4 := Lib.hid (balloc (bref W3) (.cells #[.bool false, .int .i64 0, .slice A1 0 c1, .slice A2 0 c2] 75))
          have HSZ4 := Lib.hid (alloc_sz W3 (.cells #[.bool false, .int .i64 0, .slice A1 0 c1, .slice A2 0 c2] 75))
          have HCL := Lib.hid hcl
          have hz6 : r < W3.heap.size := cell_lt x0
          clear hcs hcl hcb6
          go_wp2_with (at_builtin; refine wpList_append_lies _ rfl _ _ 25 rfl (g + 3) 75 i4 (.agg #[.bool false, .int .i64 0, .slice none 0 0, .slice none 0 0]) 4 64 Tryz.underlying25 hi4 hy0 hy1 hy2 rfl (by decide) _ Lk.length cs rfl (by exact HCSA.out) ⟨_, 0, none⟩ 1 1 [.bool false, .int .i64 0, .slice A1 0 c1, .slice A2 0 c2] rfl rfl (by exact HNEW.out) (by intro u hu; simp at hu; rcases hu with rfl | rfl | rfl | rfl <;> rfl) (by omega) (by have := HTL.out; unfold maxLen; omega) (by have := HTL.out; omega) (by have := HSZ4.out; omega) _ rfl ?_; intro g4 cap4 W7 hown4 hgrow4 hat4 hlt4; have hcb5 : W7.heap[g + 2]? = some (.cells #[v] 27 (0, 0)) := (hgrow4.block (g + 2) (by have := HSZ4.out; omega) (fun e => by have := (HROX.out _ e.symm).1; omega)).trans ((HBA4.out.block (g + 2) (by omega)).trans HCB6.out); have s0 : W7.cell? ⟨g + 2, 0, none⟩ = some v := cell_of_row _ _ 0 _ _ (0, 0) hcb5; have sf : W7.frozen? ⟨g + 2, 0, none⟩ = false := by simp [World.frozen?, hcb5])
          have hgB : (W3.alloc (.cells #[.bool false, .int .i64 0, .slice A1 0 c1, .slice A2 0 c2] 75)).grownBy W7 v.ownBlock := ⟨hgrow4.os, hgrow4.tape, hgrow4.output, hgrow4.size, hgrow4.block⟩
          have hrow5 := GRow.append (Q := fun b => g + 3 ≤ b) (m := (false, .mk 0 [] [])) (WA := W3.alloc (.cells #[.bool false, .int .i64 0, .slice A1 0 c1, .slice A2 0 c2] 75)) (fun k m hm => by
              obtain ⟨z0, z1, z2, e0, e1, e2, e3, e4⟩ := HCL.out k m hm
              exact ⟨z0, z1, z2, e0, e1, e2, e3, e4.below HBA4.out⟩) hcn (HT6.out.below HBA4.out) hown4 hgB hat4
          rw [← HMO.out, ← HTK.out] at hrow5
          have HROW5 := Lib.hid (hrow5.keep (W' := W7.setCell ⟨g + 2, 0, none⟩ (.slice (some ⟨g4, 0, none⟩) (Lk.length + 1) cap4)) (fun q hq _ => Below.heap_setCell _ _ _ _ (by simp; omega)))
          have hset5 : (W7.setCell ⟨g + 2, 0, none⟩ (.slice (some ⟨g4, 0, none⟩) (Lk.length + 1) cap4)).heap[g + 2]? = some (.cells #[.slice (some ⟨g4, 0, none⟩) (Lk.length + 1) cap4] 27 (0, 0)) := by
            simp [World.setCell, Array.getElem?_modify, hcb5]
          have HSET5 := Lib.hid hset5
          have HGR5 := Lib.hid (grown_at (gown (grown_trans HG6.out (grown_below HBA4.out)) hgB (fun q hq => by have := (HROX.out q hq).1; omega)) 0 (.slice (some ⟨g4, 0, none⟩) (Lk.length + 1) cap4))
          clear hown4 hgrow4 hat4 hlt4 hcb5 s0 sf hgB hrow5 hset5
          go_roundw
          case rel => exact ⟨k + 1, _, by omega, by go_num, HROW5, HSET5, HGR5⟩
          case measure => simp [intOf]; omega
        · have HW := Lib.hid (HM1.out rfl)
          rw [if_pos rfl] at HDO
          have hk0 : (0 : Int) ≤ (k : Int) := by omega
          go_wp2_with fail
          refine (rhas_run _ _ _).mono ?_
          rintro e w2 ⟨rfl, rfl⟩
          rw [hbit]
          go_wp2_with fail
          refine (rdelT_run _ ms.length s k 2 T _ _ _ _ hs HTX.out HW.out).mono ?_
          rintro e W5 ⟨y0, y1, y2, rfl, hT5, hb5⟩
          obtain ⟨t6, B1, n6, c6, B2, m6, c7, rfl, rfl, rfl⟩ := hT5.form
          have z0 := (hb5.cell hrl).trans r0
          have kz := (hb5.block r hrl).trans HKX.out
          have zf1 : W5.frozen? ⟨r, 1, none⟩ = false := by simp [World.frozen?, kz]
          have zf2 : W5.frozen? ⟨r, 2, none⟩ = false := by simp [World.frozen?, kz]
          have zf3 : W5.frozen? ⟨r, 3, none⟩ = false := by simp [World.frozen?, kz]
          have z1 : W5.cell? ⟨r, 1, none⟩ = some (.int .i64 t) := cell_of_row _ _ 1 _ _ (0, 0) kz
          have z2 : W5.cell? ⟨r, 2, none⟩ = some (.slice A1 n1 c1) := cell_of_row _ _ 2 _ _ (0, 0) kz
          have z3 : W5.cell? ⟨r, 3, none⟩ = some (.slice A2 n2 c2) := cell_of_row _ _ 3 _ _ (0, 0) kz
          have hz5 : r < W5.heap.size := cell_lt z0
          have K6 := Lib.hid (show (((W5.setCell ⟨r, 1, none⟩ (.int .i64 t6)).setCell ⟨r, 2, none⟩ (.slice B1 n6 c6)).setCell ⟨r, 3, none⟩ (.slice B2 m6 c7)).heap[r]? = some (.cells #[.bool true, .int .i64 t6, .slice B1 n6 c6, .slice B2 m6 c7] 75 (0, 0)) by
            simp [World.setCell, Array.getElem?_modify, kz])
          have l6 : ∀ q, q ≠ r → (((W5.setCell ⟨r, 1, none⟩ (.int .i64 t6)).setCell ⟨r, 2, none⟩ (.slice B1 n6 c6)).setCell ⟨r, 3, none⟩ (.slice B2 m6 c7)).heap[q]? = W5.heap[q]? := fun q hq =>
            (Below.heap_setCell _ _ _ _ (by simpa using hq)).trans ((Below.heap_setCell _ _ _ _ (by simpa using hq)).trans (Below.heap_setCell _ _ _ _ (by simpa using hq)))
          have L6 := Lib.hid (fun q (hq : q < r) => (l6 q (by omega)).trans ((hb5.block q (by omega)).trans (HLX.out q (by omega))))
          have HT6 := Lib.hid (TAt.both (Q := fun b => g + 3 ≤ b ∧ v.ownBlock ≠ some b) (w' := (((W5.setCell ⟨r, 1, none⟩ (.int .i64 t6)).setCell ⟨r, 2, none⟩ (.slice B1 n6 c6)).setCell ⟨r, 3, none⟩ (.slice B2 m6 c7))) (fun q hq hP => l6 q (by omega)) (fun q _ hP => ⟨by omega, fun e => by have := (HROX.out q e).2; have := HRQ.out; omega⟩) _ _ _ _ _ hT5)
          have HG6 := Lib.hid (gset (gset (gset (grown_trans HGX.out (grown_below hb5)) (p := ⟨r, 1, none⟩) (by show W1.heap.size ≤ r; omega) (.int .i64 t6)) (p := ⟨r, 2, none⟩) (by show W1.heap.size ≤ r; omega) (.slice B1 n6 c6)) (p := ⟨r, 3, none⟩) (by show W1.heap.size ≤ r; omega) (.slice B2 m6 c7))
          obtain ⟨T6, hT6⟩ : ∃ T6, delT s k 3 T = T6 := ⟨_, rfl⟩
          rw [hT6] at HDO HT6
          have HMO := HDO
          clear hT5 l6 hb5 kz z0 hT6
          go_upto_region 11 with fail
          generalize (((W5.setCell ⟨r, 1, none⟩ (.int .i64 t6)).setCell ⟨r, 2, none⟩ (.slice B1 n6 c6)).setCell ⟨r, 3, none⟩ (.slice B2 m6 c7)) = W6 at *
          clear z1 z2 z3 zf1 zf2 zf3 r0 r1 r2 r3 rf0 rf1 rf2 rf3
          have x0 : W6.cell? ⟨r, 0, none⟩ = some (.bool true) := cell_of_row _ _ 0 _ _ (0, 0) K6.out
          have x1 : W6.cell? ⟨r, 1, none⟩ = some (.int .i64 t6) := cell_of_row _ _ 1 _ _ (0, 0) K6.out
          have x2 : W6.cell? ⟨r, 2, none⟩ = some (.slice B1 n6 c6) := cell_of_row _ _ 2 _ _ (0, 0) K6.out
          have x3 : W6.cell? ⟨r, 3, none⟩ = some (.slice B2 m6 c7) := cell_of_row _ _ 3 _ _ (0, 0) K6.out
          have hcb6 : W6.heap[g + 2]? = some (.cells #[v] 27 (0, 0)) := (L6.out (g + 2) (by omega)).trans HOW.out
          have q2 : W6.cell? ⟨g + 2, 0, none⟩ = some v := cell_of_row _ _ 0 _ _ (0, 0) hcb6
          have HCB6 := Lib.hid hcb6
          have hR6 := HRW.out.keep (W' := W6) (fun q _ hq => L6.out q (by rw [← HRQ.out]; exact hq))
          obtain ⟨cs, hcs, hcl⟩ := hR6
          have hcn := hcs.1
          have HCSA := Lib.hid (hcs.alloc (.cells #[.bool true, .int .i64 t6, .slice B1 n6 c6, .slice B2 m6 c7] 75))
          have HNEW := Lib.hid (cell_four_new W6 (.bool true) (.int .i64 t6) (.slice B1 n6 c6) (.slice B2 m6 c7) 75)
          have HBA4 := Lib.hid (balloc (bref W6) (.cells #[.bool true, .int .i64 t6, .slice B1 n6 c6, .slice B2 m6 c7] 75))
          have HSZ4 := Lib.hid (alloc_sz W6 (.cells #[.bool true, .int .i64 t6, .slice B1 n6 c6, .slice B2 m6 c7] 75))
          have HCL := Lib.hid hcl
          have hz6 : r < W6.heap.size := cell_lt x0
          clear hcs hcl hcb6
          go_wp2_with (at_builtin; refine wpList_append_lies _ rfl _ _ 25 rfl (g + 3) 75 i4 (.agg #[.bool false, .int .i64 0, .slice none 0 0, .slice none 0 0]) 4 64 Tryz.underlying25 hi4 hy0 hy1 hy2 rfl (by decide) _ Lk.length cs rfl (by exact HCSA.out) ⟨_, 0, none⟩ 1 1 [.bool true, .int .i64 t6, .slice B1 n6 c6, .slice B2 m6 c7] rfl rfl (by exact HNEW.out) (by intro u hu; simp at hu; rcases hu with rfl | rfl | rfl | rfl <;> rfl) (by omega) (by have := HTL.out; unfold maxLen; omega) (by have := HTL.out; omega) (by have := HSZ4.out; omega) _ rfl ?_; intro g4 cap4 W7 hown4 hgrow4 hat4 hlt4; have hcb5 : W7.heap[g + 2]? = some (.cells #[v] 27 (0, 0)) := (hgrow4.block (g + 2) (by have := HSZ4.out; omega) (fun e => by have := (HROX.out _ e.symm).1; omega)).trans ((HBA4.out.block (g + 2) (by omega)).trans HCB6.out); have s0 : W7.cell? ⟨g + 2, 0, none⟩ = some v := cell_of_row _ _ 0 _ _ (0, 0) hcb5; have sf : W7.frozen? ⟨g + 2, 0, none⟩ = false := by simp [World.frozen?, hcb5])
          have hgB : (W6.alloc (.cells #[.bool true, .int .i64 t6, .slice B1 n6 c6, .slice B2 m6 c7] 75)).grownBy W7 v.ownBlock := ⟨hgrow4.os, hgrow4.tape, hgrow4.output, hgrow4.size, hgrow4.block⟩
          have hrow5 := GRow.append (Q := fun b => g + 3 ≤ b) (m := (true, T6)) (WA := W6.alloc (.cells #[.bool true, .int .i64 t6, .slice B1 n6 c6, .slice B2 m6 c7] 75)) (fun k m hm => by
              obtain ⟨z0, z1, z2, e0, e1, e2, e3, e4⟩ := HCL.out k m hm
              exact ⟨z0, z1, z2, e0, e1, e2, e3, e4.below HBA4.out⟩) hcn (HT6.out.below HBA4.out) hown4 hgB hat4
          rw [← HMO.out, ← HTK.out] at hrow5
          have HROW5 := Lib.hid (hrow5.keep (W' := W7.setCell ⟨g + 2, 0, none⟩ (.slice (some ⟨g4, 0, none⟩) (Lk.length + 1) cap4)) (fun q hq _ => Below.heap_setCell _ _ _ _ (by simp; omega)))
          have hset5 : (W7.setCell ⟨g + 2, 0, none⟩ (.slice (some ⟨g4, 0, none⟩) (Lk.length + 1) cap4)).heap[g + 2]? = some (.cells #[.slice (some ⟨g4, 0, none⟩) (Lk.length + 1) cap4] 27 (0, 0)) := by
            simp [World.setCell, Array.getElem?_modify, hcb5]
          have HSET5 := Lib.hid hset5
          have HGR5 := Lib.hid (grown_at (gown (grown_trans HG6.out (grown_below HBA4.out)) hgB (fun q hq => by have := (HROX.out q hq).1; omega)) 0 (.slice (some ⟨g4, 0, none⟩) (Lk.length + 1) cap4))
          clear hown4 hgrow4 hat4 hlt4 hcb5 s0 sf hgB hrow5 hset5
          go_roundw
          case rel => exact ⟨k + 1, _, by omega, by go_num, HROW5, HSET5, HGR5⟩
          case measure => simp [intOf]; omega
      · rw [hb] at hbit
        rw [hbit] at HDO
        rw [if_pos rfl] at HDO
        go_wp2_with fail
        refine (rhas_run _ _ _).mono ?_
        rintro e w2 ⟨rfl, rfl⟩
        rw [hbit]
        have K6 := Lib.hid (show ((((W3.setCell ⟨r, 0, none⟩ (.bool false)).setCell ⟨r, 1, none⟩ (.int .i64 0)).setCell ⟨r, 2, none⟩ (.slice none 0 0)).setCell ⟨r, 3, none⟩ (.slice none 0 0)).heap[r]? = some (.cells #[.bool false, .int .i64 0, .slice none 0 0, .slice none 0 0] 75 (0, 0)) by
          simp [World.setCell, Array.getElem?_modify, HKX.out])
        have l6 : ∀ q, q ≠ r → ((((W3.setCell ⟨r, 0, none⟩ (.bool false)).setCell ⟨r, 1, none⟩ (.int .i64 0)).setCell ⟨r, 2, none⟩ (.slice none 0 0)).setCell ⟨r, 3, none⟩ (.slice none 0 0)).heap[q]? = W3.heap[q]? := fun q hq =>
          (Below.heap_setCell _ _ _ _ (by simpa using hq)).trans ((Below.heap_setCell _ _ _ _ (by simpa using hq)).trans ((Below.heap_setCell _ _ _ _ (by simpa using hq)).trans (Below.heap_setCell _ _ _ _ (by simpa using hq))))
        have L6 := Lib.hid (fun q (hq : q < r) => (l6 q (by omega)).trans (HLX.out q hq))
        have HG6 := Lib.hid (gset (gset (gset (gset HGX.out (p := ⟨r, 0, none⟩) (by show W1.heap.size ≤ r; omega) (.bool false)) (p := ⟨r, 1, none⟩) (by show W1.heap.size ≤ r; omega) (.int .i64 0)) (p := ⟨r, 2, none⟩) (by show W1.heap.size ≤ r; omega) (.slice none 0 0)) (p := ⟨r, 3, none⟩) (by show W1.heap.size ≤ r; omega) (.slice none 0 0))
        have HMO := HDO
        clear l6
        go_upto_region 11 with fail
        generalize ((((W3.setCell ⟨r, 0, none⟩ (.bool false)).setCell ⟨r, 1, none⟩ (.int .i64 0)).setCell ⟨r, 2, none⟩ (.slice none 0 0)).setCell ⟨r, 3, none⟩ (.slice none 0 0)) = W6 at *
        have HT6 := Lib.hid (TAt.empty (fun b => g + 3 ≤ b ∧ v.ownBlock ≠ some b) 2 W6 none none 0 0)
        clear r0 r1 r2 r3 rf0 rf1 rf2 rf3
        have x0 : W6.cell? ⟨r, 0, none⟩ = some (.bool false) := cell_of_row _ _ 0 _ _ (0, 0) K6.out
        have x1 : W6.cell? ⟨r, 1, none⟩ = some (.int .i64 0) := cell_of_row _ _ 1 _ _ (0, 0) K6.out
        have x2 : W6.cell? ⟨r, 2, none⟩ = some (.slice none 0 0) := cell_of_row _ _ 2 _ _ (0, 0) K6.out
        have x3 : W6.cell? ⟨r, 3, none⟩ = some (.slice none 0 0) := cell_of_row _ _ 3 _ _ (0, 0) K6.out
        have hcb6 : W6.heap[g + 2]? = some (.cells #[v] 27 (0, 0)) := (L6.out (g + 2) (by omega)).trans HOW.out
        have q2 : W6.cell? ⟨g + 2, 0, none⟩ = some v := cell_of_row _ _ 0 _ _ (0, 0) hcb6
        have HCB6 := Lib.hid hcb6
        have hR6 := HRW.out.keep (W' := W6) (fun q _ hq => L6.out q (by rw [← HRQ.out]; exact hq))
        obtain ⟨cs, hcs, hcl⟩ := hR6
        have hcn := hcs.1
        have HCSA := Lib.hid (hcs.alloc (.cells #[.bool false, .int .i64 0, .slice none 0 0, .slice none 0 0] 75))
        have HNEW := Lib.hid (cell_four_new W6 (.bool false) (.int .i64 0) (.slice none 0 0) (.slice none 0 0) 75)
        have HBA4 := Lib.hid (balloc (bref W6) (.cells #[.bool false, .int .i64 0, .slice none 0 0, .slice none 0 0] 75))
        have HSZ4 := Lib.hid (alloc_sz W6 (.cells #[.bool false, .int .i64 0, .slice none 0 0, .slice none 0 0] 75))
        have HCL := Lib.hid hcl
        have hz6 : r < W6.heap.size := cell_lt x0
        clear hcs hcl hcb6
        go_wp2_with (at_builtin; refine wpList_append_lies _ rfl _ _ 25 rfl (g + 3) 75 i4 (.agg #[.bool false, .int .i64 0, .slice none 0 0, .slice none 0 0]) 4 64 Tryz.underlying25 hi4 hy0 hy1 hy2 rfl (by decide) _ Lk.length cs rfl (by exact HCSA.out) ⟨_, 0, none⟩ 1 1 [.bool false, .int .i64 0, .slice none 0 0, .slice none 0 0] rfl rfl (by exact HNEW.out) (by intro u hu; simp at hu; rcases hu with rfl | rfl | rfl | rfl <;> rfl) (by omega) (by have := HTL.out; unfold maxLen; omega) (by have := HTL.out; omega) (by have := HSZ4.out; omega) _ rfl ?_; intro g4 cap4 W7 hown4 hgrow4 hat4 hlt4; have hcb5 : W7.heap[g + 2]? = some (.cells #[v] 27 (0, 0)) := (hgrow4.block (g + 2) (by have := HSZ4.out; omega) (fun e => by have := (HROX.out _ e.symm).1; omega)).trans ((HBA4.out.block (g + 2) (by omega)).trans HCB6.out); have s0 : W7.cell? ⟨g + 2, 0, none⟩ = some v := cell_of_row _ _ 0 _ _ (0, 0) hcb5; have sf : W7.frozen? ⟨g + 2, 0, none⟩ = false := by simp [World.frozen?, hcb5])
        have hgB : (W6.alloc (.cells #[.bool false, .int .i64 0, .slice none 0 0, .slice none 0 0] 75)).grownBy W7 v.ownBlock := ⟨hgrow4.os, hgrow4.tape, hgrow4.output, hgrow4.size, hgrow4.block⟩
        have hrow5 := GRow.append (Q := fun b => g + 3 ≤ b) (m := (false, .mk 0 [] [])) (WA := W6.alloc (.cells #[.bool false, .int .i64 0, .slice none 0 0, .slice none 0 0] 75)) (fun k m hm => by
            obtain ⟨z0, z1, z2, e0, e1, e2, e3, e4⟩ := HCL.out k m hm
            exact ⟨z0, z1, z2, e0, e1, e2, e3, e4.below HBA4.out⟩) hcn (HT6.out.below HBA4.out) hown4 hgB hat4
        rw [← HMO.out, ← HTK.out] at hrow5
        have HROW5 := Lib.hid (hrow5.keep (W' := W7.setCell ⟨g + 2, 0, none⟩ (.slice (some ⟨g4, 0, none⟩) (Lk.length + 1) cap4)) (fun q hq _ => Below.heap_setCell _ _ _ _ (by simp; omega)))
        have hset5 : (W7.setCell ⟨g + 2, 0, none⟩ (.slice (some ⟨g4, 0, none⟩) (Lk.length + 1) cap4)).heap[g + 2]? = some (.cells #[.slice (some ⟨g4, 0, none⟩) (Lk.length + 1) cap4] 27 (0, 0)) := by
          simp [World.setCell, Array.getElem?_modify, hcb5]
        have HSET5 := Lib.hid hset5
        have HGR5 := Lib.hid (grown_at (gown (grown_trans HG6.out (grown_below HBA4.out)) hgB (fun q hq => by have := (HROX.out q hq).1; omega)) 0 (.slice (some ⟨g4, 0, none⟩) (Lk.length + 1) cap4))
        clear hown4 hgrow4 hat4 hlt4 hcb5 s0 sf hgB hrow5 hset5
        go_roundw
        case rel => exact ⟨k + 1, _, by omega, by go_num, HROW5, HSET5, HGR5⟩
        case measure => simp [intOf]; omega
    · obtain rfl : k = ms.length := by omega
      have HLE := Lib.hid (show (delM s ms).take ms.length = delM s ms by rw [← delM_len s ms, List.take_length])
      have hrl : GRow (fun b => g + 3 ≤ b) (g + 3) 3 wr v (delM s ms) := by have h1 := hRow.out; rw [HLE.out] at h1; exact h1
      have hvs : ∃ A c, v = .slice A (delM s ms).length c := (hrl.mems (P := fun _ => True) (fun _ _ => trivial)).slice
      obtain ⟨Av, cv, rfl⟩ := hvs
      generalize (delM s ms).length = nv at *
      have c2 : wr.cell? ⟨g + 2, 0, none⟩ = some (.slice Av nv cv) := cell_of_row _ _ 0 _ _ (0, 0) hOut.out
      have hres : wr.heap[g + 1]? = some (.cells #[.slice none 0 0] 27 (0, 0)) := (hGr.out.block (g + 1) (by omega) (by simp)).trans K1.out
      have z0 : wr.cell? ⟨g + 1, 0, none⟩ = some (.slice none 0 0) := cell_of_row _ _ 0 _ _ (0, 0) hres
      have zf : wr.frozen? ⟨g + 1, 0, none⟩ = false := by simp [World.frozen?, hres]
      have hset : (wr.setCell ⟨g + 1, 0, none⟩ (.slice Av nv cv)).heap[g + 1]? = some (.cells #[.slice Av nv cv] 27 (0, 0)) := by
        simp [World.setCell, Array.getElem?_modify, hres]
      have q0 : (wr.setCell ⟨g + 1, 0, none⟩ (.slice Av nv cv)).cell? ⟨g + 1, 0, none⟩ = some (.slice Av nv cv) := cell_of_row _ _ 0 _ _ (0, 0) hset
      have hms : MemsAt (fun b => w.heap.size ≤ b) 3 (wr.setCell ⟨g + 1, 0, none⟩ (.slice Av nv cv)) (.slice Av nv cv) (delM s ms) := (hrl.keep (fun q hq _ => Below.heap_setCell _ _ _ _ (by simp; omega))).mems (fun b hb => by have := HG.out; omega)
      have hbW : Below w.heap.size w (wr.setCell ⟨g + 1, 0, none⟩ (.slice Av nv cv)) := by
        have h1 := HB.out
        rw [← HG.out] at h1
        exact bset (h1.grown hGr.out h1.size (fun q hq => by obtain rfl := Option.some.inj hq; have := HG.out; omega)) (p := ⟨g + 1, 0, none⟩) (by have := HG.out; show w.heap.size ≤ g + 1; omega) _
      have HF := Lib.hid (And.intro hms hbW)
      have Q0 := Lib.hid q0
      clear hset q0 hms hbW hres hrl
      go_wp2_with fail
      have q0 := Q0.out
      refine bodyPost_ret (v := .agg #[.slice Av nv cv]) ?_ rfl ⟨_, rfl, HF.out⟩
      simp [results, Tryz.results28, go_sem, q0]

def mixL (s : Nat) (ms : List Mem) (k : Nat) : List Mem := (delM s ms).take k ++ ms.drop k

theorem mixL_len (s : Nat) (ms : List Mem) (k : Nat) : (mixL s ms k).length = ms.length := by
  unfold mixL
  rw [List.length_append, List.length_take, List.length_drop, delM_len]
  omega

theorem mixL_get {s k : Nat} {ms : List Mem} {m : Mem} (h : ms[k]? = some m) : (mixL s ms k)[k]? = some m := by
  have hl := (List.getElem?_eq_some_iff.1 h).1
  unfold mixL
  rw [List.getElem?_append_right (by rw [List.length_take, delM_len]; omega), List.length_take, delM_len, Nat.min_eq_left (by omega), Nat.sub_self, List.getElem?_drop]
  exact h

theorem mixL_set {s k : Nat} {ms : List Mem} {m : Mem} (h : ms[k]? = some m) : (mixL s ms k).set k (delOne s k m) = mixL s ms (k + 1) := by
  have hl := (List.getElem?_eq_some_iff.1 h).1
  have hm := (List.getElem?_eq_some_iff.1 h).2
  have e1 : ms.drop k = m :: ms.drop (k + 1) := by rw [← hm]; exact List.drop_eq_getElem_cons hl
  have e2 := delM_take (s := s) h
  have e3 : ((delM s ms).take k).length = k := by rw [List.length_take, delM_len]; omega
  unfold mixL
  rw [e1, e2, List.set_append_right _ _ (by omega), e3, Nat.sub_self, List.set_cons_zero, List.append_assoc]
  rfl

theorem mixL_same {s k : Nat} {ms : List Mem} {m : Mem} (h : ms[k]? = some m) (hd : delOne s k m = m) : mixL s ms (k + 1) = mixL s ms k := by
  rw [← mixL_set h, hd]
  have hg := mixL_get (s := s) h
  have hl := (List.getElem?_eq_some_iff.1 hg).1
  apply List.ext_getElem?
  intro i
  rcases (show i = k ∨ i ≠ k by omega) with rfl | hi
  · rw [List.getElem?_set_self hl, hg]
  · rw [List.getElem?_set_ne (by omega)]

/-- The world of Delete: the argument's box g, the result g + 1, the copy in box r. -/
structure DelW (w : World) (g r : Nat) (v0 v : Value) (ms L : List Mem) (W : World) : Prop where
  box : W.heap[g]? = some (.cells #[v0] 27 (0, 0))
  res : W.heap[g + 1]? = some (.cells #[.slice none 0 0] 27 (0, 0))
  out : W.heap[r]? = some (.cells #[v] 27 (0, 0))
  row : GRow (fun q => g + 2 ≤ q) (g + 2) 3 W v L
  old : MemsAt (fun q => q < g) 3 W v0 ms
  below : Below w.heap.size w W

theorem DelW.bel {w W W' : World} {g r : Nat} {v0 v : Value} {ms L : List Mem} (h : DelW w g r v0 v ms L W) (hb : Below W.heap.size W W') : DelW w g r v0 v ms L W' :=
  ⟨(hb.block _ (Array.getElem?_eq_some_iff.1 h.box).1).trans h.box, (hb.block _ (Array.getElem?_eq_some_iff.1 h.res).1).trans h.res, (hb.block _ (Array.getElem?_eq_some_iff.1 h.out).1).trans h.out, h.row.keep (fun q _ hq => hb.block q hq), h.old.below hb, bstep h.below hb⟩

/-- What changes the row's block alone. -/
theorem DelW.put {w W W' : World} {g r gb : Nat} {v0 v : Value} {ms L L' : List Mem} (h : DelW w g r v0 v ms L W) (hg : w.heap.size = g) (hgb : g + 2 ≤ gb) (hr : r ≠ gb) (hfar : ∀ q, q ≠ gb → W'.heap[q]? = W.heap[q]?) (hrow : GRow (fun q => g + 2 ≤ q) (g + 2) 3 W' v L') (hbel : Below w.heap.size w W') : DelW w g r v0 v ms L' W' :=
  ⟨(hfar g (by omega)).trans h.box, (hfar (g + 1) (by omega)).trans h.res, (hfar r hr).trans h.out, hrow, h.old.both (fun k _ hk => hfar k (by omega)) (fun k _ hk => hk), hbel⟩

/-- A member is stored whole. -/
theorem DelW.store4 {w W : World} {g r gb n cap k : Nat} {v0 : Value} {ms L : List Mem} {m : Mem} {y0 y1 y2 : Value} (h : DelW w g r v0 (.slice (some ⟨gb, 0, none⟩) n cap) ms L W) (hg : w.heap.size = g) (hr : r ≠ gb) (hk : k < L.length)
    (hT : TAt (fun q => g + 2 ≤ q ∧ q ≠ gb) 3 W y0 y1 y2 m.2) : DelW w g r v0 (.slice (some ⟨gb, 0, none⟩) n cap) ms (L.set k m) ((((W.setCell ⟨gb, k * 4, none⟩ (.bool m.1)).setCell ⟨gb, k * 4 + 1, none⟩ y0).setCell ⟨gb, k * 4 + 2, none⟩ y1).setCell ⟨gb, k * 4 + 3, none⟩ y2) := by
  obtain ⟨gb', cap', cs, hv, hgb, hown, hcs⟩ := h.row.open' hk
  injection hv with e1 e2 e3
  injection e1 with e1
  injection e1 with e1 _ _
  subst e1 e2 e3
  have hl := hown.1
  have far : ∀ q, q ≠ gb → ((((W.setCell ⟨gb, k * 4, none⟩ (.bool m.1)).setCell ⟨gb, k * 4 + 1, none⟩ y0).setCell ⟨gb, k * 4 + 2, none⟩ y1).setCell ⟨gb, k * 4 + 3, none⟩ y2).heap[q]? = W.heap[q]? := fun q hq =>
    (Below.heap_setCell _ _ _ _ (by simpa using hq)).trans ((Below.heap_setCell _ _ _ _ (by simpa using hq)).trans ((Below.heap_setCell _ _ _ _ (by simpa using hq)).trans (Below.heap_setCell _ _ _ _ (by simpa using hq))))
  refine h.put hg hgb hr far (GRow.put hk rfl ((((hown.stored (k * 4) (.bool m.1)).1.stored (k * 4 + 1) y0).1.stored (k * 4 + 2) y1).1.stored (k * 4 + 3) y2).1 (fun j x hj hx => ?_) ?_ ?_ ?_ ?_ hT far) ?_
  · obtain ⟨x0, x1, x2, a0, a1, a2, a3, a4⟩ := hcs j x hx
    refine ⟨x0, x1, x2, ?_, ?_, ?_, ?_, a4⟩
    · rw [List.getElem?_set_ne (by omega), List.getElem?_set_ne (by omega), List.getElem?_set_ne (by omega), List.getElem?_set_ne (by omega)]; exact a0
    · rw [List.getElem?_set_ne (by omega), List.getElem?_set_ne (by omega), List.getElem?_set_ne (by omega), List.getElem?_set_ne (by omega)]; exact a1
    · rw [List.getElem?_set_ne (by omega), List.getElem?_set_ne (by omega), List.getElem?_set_ne (by omega), List.getElem?_set_ne (by omega)]; exact a2
    · rw [List.getElem?_set_ne (by omega), List.getElem?_set_ne (by omega), List.getElem?_set_ne (by omega), List.getElem?_set_ne (by omega)]; exact a3
  · rw [List.getElem?_set_ne (by omega), List.getElem?_set_ne (by omega), List.getElem?_set_ne (by omega), List.getElem?_set_self (by omega)]
  · rw [List.getElem?_set_ne (by omega), List.getElem?_set_ne (by omega), List.getElem?_set_self (by first | omega | (simp; omega))]
  · rw [List.getElem?_set_ne (by omega), List.getElem?_set_self (by simp; omega)]
  · rw [List.getElem?_set_self (by simp; omega)]
  · exact bset (bset (bset (bset h.below (p := ⟨gb, k * 4, none⟩) (by show w.heap.size ≤ gb; omega) _) (p := ⟨gb, k * 4 + 1, none⟩) (by show w.heap.size ≤ gb; omega) _) (p := ⟨gb, k * 4 + 2, none⟩) (by show w.heap.size ≤ gb; omega) _) (p := ⟨gb, k * 4 + 3, none⟩) (by show w.heap.size ≤ gb; omega) _

/-- A declared member's trust is stored. -/
theorem DelW.store3 {w W : World} {g r gb n cap k : Nat} {v0 : Value} {ms L : List Mem} {m : Mem} {y0 y1 y2 : Value} (h : DelW w g r v0 (.slice (some ⟨gb, 0, none⟩) n cap) ms L W) (hg : w.heap.size = g) (hr : r ≠ gb) (hk : k < L.length) (hb : ∀ x, L[k]? = some x → x.1 = m.1)
    (hT : TAt (fun q => g + 2 ≤ q ∧ q ≠ gb) 3 W y0 y1 y2 m.2) : DelW w g r v0 (.slice (some ⟨gb, 0, none⟩) n cap) ms (L.set k m) (((W.setCell ⟨gb, k * 4 + 1, none⟩ y0).setCell ⟨gb, k * 4 + 2, none⟩ y1).setCell ⟨gb, k * 4 + 3, none⟩ y2) := by
  obtain ⟨gb', cap', cs, hv, hgb, hown, hcs⟩ := h.row.open' hk
  injection hv with e1 e2 e3
  injection e1 with e1
  injection e1 with e1 _ _
  subst e1 e2 e3
  have hl := hown.1
  have far : ∀ q, q ≠ gb → (((W.setCell ⟨gb, k * 4 + 1, none⟩ y0).setCell ⟨gb, k * 4 + 2, none⟩ y1).setCell ⟨gb, k * 4 + 3, none⟩ y2).heap[q]? = W.heap[q]? := fun q hq =>
    (Below.heap_setCell _ _ _ _ (by simpa using hq)).trans ((Below.heap_setCell _ _ _ _ (by simpa using hq)).trans (Below.heap_setCell _ _ _ _ (by simpa using hq)))
  refine h.put hg hgb hr far (GRow.put hk rfl (((hown.stored (k * 4 + 1) y0).1.stored (k * 4 + 2) y1).1.stored (k * 4 + 3) y2).1 (fun j x hj hx => ?_) ?_ ?_ ?_ ?_ hT far) ?_
  · obtain ⟨x0, x1, x2, a0, a1, a2, a3, a4⟩ := hcs j x hx
    refine ⟨x0, x1, x2, ?_, ?_, ?_, ?_, a4⟩
    · rw [List.getElem?_set_ne (by omega), List.getElem?_set_ne (by omega), List.getElem?_set_ne (by omega)]; exact a0
    · rw [List.getElem?_set_ne (by omega), List.getElem?_set_ne (by omega), List.getElem?_set_ne (by omega)]; exact a1
    · rw [List.getElem?_set_ne (by omega), List.getElem?_set_ne (by omega), List.getElem?_set_ne (by omega)]; exact a2
    · rw [List.getElem?_set_ne (by omega), List.getElem?_set_ne (by omega), List.getElem?_set_ne (by omega)]; exact a3
  · rw [List.getElem?_set_ne (by omega), List.getElem?_set_ne (by omega), List.getElem?_set_ne (by omega)]
    obtain ⟨x0, x1, x2, a0, _⟩ := hcs k _ (List.getElem?_eq_getElem hk)
    rw [a0, hb _ (List.getElem?_eq_getElem hk)]
  · rw [List.getElem?_set_ne (by omega), List.getElem?_set_ne (by omega), List.getElem?_set_self (by first | omega | (simp; omega))]
  · rw [List.getElem?_set_ne (by omega), List.getElem?_set_self (by simp; omega)]
  · rw [List.getElem?_set_self (by simp; omega)]
  · exact bset (bset (bset h.below (p := ⟨gb, k * 4 + 1, none⟩) (by show w.heap.size ≤ gb; omega) _) (p := ⟨gb, k * 4 + 2, none⟩) (by show w.heap.size ≤ gb; omega) _) (p := ⟨gb, k * 4 + 3, none⟩) (by show w.heap.size ≤ gb; omega) _

/-- The cells of the row at a member. -/
theorem DelW.cells {w W : World} {g r gb n cap k : Nat} {v0 : Value} {ms L : List Mem} (h : DelW w g r v0 (.slice (some ⟨gb, 0, none⟩) n cap) ms L W) (hk : k < L.length) :
    (∃ u, W.cell? ⟨gb, k * 4, none⟩ = some u) ∧ (∃ u, W.cell? ⟨gb, k * 4 + 1, none⟩ = some u) ∧ (∃ u, W.cell? ⟨gb, k * 4 + 2, none⟩ = some u) ∧ (∃ u, W.cell? ⟨gb, k * 4 + 3, none⟩ = some u) ∧ (∀ j, W.frozen? ⟨gb, j, none⟩ = false) ∧ gb < W.heap.size := by
  obtain ⟨gb', cap', cs, hv, hgb, hown, hcs⟩ := h.row.open' hk
  injection hv with e1 e2 e3
  injection e1 with e1
  injection e1 with e1 _ _
  subst e1 e2 e3
  have hl := hown.1
  refine ⟨⟨_, (hown.cellAt (k * 4) (by omega)).trans (List.getElem?_eq_getElem (by omega))⟩, ⟨_, (hown.cellAt (k * 4 + 1) (by omega)).trans (List.getElem?_eq_getElem (by omega))⟩, ⟨_, (hown.cellAt (k * 4 + 2) (by omega)).trans (List.getElem?_eq_getElem (by omega))⟩, ⟨_, (hown.cellAt (k * 4 + 3) (by omega)).trans (List.getElem?_eq_getElem (by omega))⟩, hown.frozenAt, (hown.lt gb rfl).2⟩

set_option maxRecDepth 100000 in
set_option maxHeartbeats 8000000 in
theorem pdelete_run (P : Nat → Prop) (ms : List Mem) (v : Value) (s : Nat) (w : World) (hl : ms.length ≤ 10) (hs : s < 1024) (h : MemsAt P 3 w v ms) (hok : MemsOk ms.length ms) :
    Calls Tryz.prog 53 #[.agg #[v], .int .i64 (s : Int)] w fun e w' => ∃ v', e = .returned (.agg #[v']) ∧ MemsAt (fun b => w.heap.size ≤ b) 3 w' v' (delM s ms) ∧ Below w.heap.size w w' := by
  obtain ⟨A, c, rfl⟩ := h.slice
  have hsv := Lib.hid (show setB (s : Int) = true from setB_iff.2 ⟨by omega, by omega⟩)
  have hb2 : Below w.heap.size w ((w.alloc (.cells #[.slice A ms.length c] 27)).alloc (.cells #[.slice none 0 0] 27)) := balloc (balloc (bref w) _) _
  have k0 : ((w.alloc (.cells #[.slice A ms.length c] 27)).alloc (.cells #[.slice none 0 0] 27)).heap[w.heap.size]? = some (.cells #[.slice A ms.length c] 27 (0, 0)) := alloc_on (alloc_at rfl)
  have k1 : ((w.alloc (.cells #[.slice A ms.length c] 27)).alloc (.cells #[.slice none 0 0] 27)).heap[w.heap.size + 1]? = some (.cells #[.slice none 0 0] 27 (0, 0)) := alloc_at (alloc_sz _ _)
  have hsz : ((w.alloc (.cells #[.slice A ms.length c] 27)).alloc (.cells #[.slice none 0 0] 27)).heap.size = w.heap.size + 2 := by rw [alloc_sz, alloc_sz]
  have H := Lib.hid ((h.both (Q := fun b => b < w.heap.size) (fun _ _ _ => rfl) (fun k hk _ => hk)).below hb2)
  have HB := Lib.hid hb2
  have K0 := Lib.hid k0
  have K1 := Lib.hid k1
  have HOK := Lib.hid hok
  clear h hb2 k0 k1 hok
  go_enter Tryz.func53, Tryz.ntmps53
  go_upto_region 1 with fail
  generalize ((w.alloc (.cells #[.slice A ms.length c] 27)).alloc (.cells #[.slice none 0 0] 27)) = W1 at *
  generalize hg : w.heap.size = g at *
  have HG := Lib.hid hg
  clear hg
  have c0 : W1.cell? ⟨g, 0, none⟩ = some (.slice A ms.length c) := cell_of_row _ _ 0 _ _ (0, 0) K0.out
  go_wp2_with fail
  refine (pconfig_run 3 _ _ ms _ hl H.out).mono ?_
  rintro e W2 ⟨v', rfl, hR, hb⟩
  have hms := hR.mems (P := fun _ => True) (fun _ _ => trivial)
  obtain ⟨A2, c2, rfl⟩ := hms.slice
  have hbA := balloc hb (.cells #[.slice A2 ms.length c2] 27)
  have HD := Lib.hid (show DelW w g W2.heap.size (.slice A ms.length c) (.slice A2 ms.length c2) ms (mixL s ms 0) (W2.alloc (.cells #[.slice A2 ms.length c2] 27)) from by
    refine ⟨(hbA.block g (by omega)).trans K0.out, (hbA.block (g + 1) (by omega)).trans K1.out, alloc_at rfl, ?_, H.out.below hbA, ?_⟩
    · have h1 := hR.keep (W' := W2.alloc (.cells #[.slice A2 ms.length c2] 27)) (fun q _ hq => Below.heap_alloc _ _ _ hq)
      obtain ⟨cs, h3, h4⟩ := h1
      rw [show mixL s ms 0 = ms from rfl]
      exact ⟨cs, own_down h3 (by omega), fun k m hm => by
        obtain ⟨x0, x1, x2, e0, e1, e2, e3, e4⟩ := h4 k m hm
        exact ⟨x0, x1, x2, e0, e1, e2, e3, e4.imp (fun q _ hP => ⟨by have := hP.1; omega, hP.2⟩)⟩⟩
    · have h1 := HB.out
      rw [← HG.out] at h1
      exact h1.trans (hbA.mono (by have := HG.out; omega)))
  have hrl : W2.heap.size < (W2.alloc (.cells #[.slice A2 ms.length c2] 27)).heap.size := by rw [alloc_sz]; omega
  have hbs := hb.size
  have HNE := Lib.hid (show ∀ gb, (Value.slice A2 ms.length c2).ownBlock = some gb → gb < W2.heap.size from fun gb hgb => (hR.own gb hgb).2)
  clear hms hR hb hbA c0
  go_upto_region 2 with fail
  generalize W2.alloc (.cells #[.slice A2 ms.length c2] 27) = W3 at *
  generalize W2.heap.size = r at *
  go_wp2_with fail
  refine (setValid_run _ _).mono ?_
  rintro e w2 ⟨rfl, rfl⟩
  rw [hsv.out]
  have c0 : W3.cell? ⟨g, 0, none⟩ = some (.slice A ms.length c) := cell_of_row _ _ 0 _ _ (0, 0) HD.out.box
  go_wp2_with fail
  clear c0
  go_loopw [17] (fun t W => ∃ k : Nat, k ≤ ms.length ∧ t = .int .i64 k ∧ Hid (DelW w g r (.slice A ms.length c) (.slice A2 ms.length c2) ms (mixL s ms k) W)) (fun t _ => ms.length - (intOf t).toNat)
  case atStart => exact ⟨0, Nat.zero_le _, rfl, HD⟩
  case round =>
    clear HD hrl
    obtain ⟨k, hk, rfl, hD⟩ := hrel
    by_cases hlt : k < ms.length
    · obtain ⟨m, hm⟩ : ∃ m, ms[k]? = some m := ⟨_, List.getElem?_eq_getElem hlt⟩
      obtain ⟨A', c', hv, hc⟩ := hD.out.old
      injection hv with hv1 hv2 hv3
      subst hv1
      obtain ⟨b, off, x0, x1, x2, rfl, hPb, e0, e1, e2, e3, hTk⟩ := hc k m hm
      obtain ⟨t', A1, n1, c1, B1, m1, c1', rfl, rfl, rfl⟩ := hTk.form
      obtain ⟨bm, T⟩ := m
      have hM := HOK.out _ (List.mem_of_getElem? hm)
      have HM1 := Lib.hid hM.1
      have HM2 := Lib.hid hM.2
      have HX := Lib.hid hm
      have hkk : k < 10 := by omega
      clear hc hM hm hv2 hv3
      have hbl := cell_lt e0
      have hbx : (wr.alloc (.cells #[.bool bm, .int .i64 t', .slice A1 n1 c1, .slice B1 m1 c1'] 75)).heap[wr.heap.size]? = some (.cells #[.bool bm, .int .i64 t', .slice A1 n1 c1, .slice B1 m1 c1'] 75 (0, 0)) := alloc_at rfl
      have hbA := balloc (bref wr) (.cells #[.bool bm, .int .i64 t', .slice A1 n1 c1, .slice B1 m1 c1'] 75)
      have hD4 := Lib.hid (hD.out.bel hbA)
      have HT4 := Lib.hid ((hTk.below hbA))
      have hrw : r < wr.heap.size := (Array.getElem?_eq_some_iff.1 hD.out.out).1
      have hgw : g + 1 < wr.heap.size := (Array.getElem?_eq_some_iff.1 hD.out.res).1
      clear hbA hTk hD
      go_upto_region 7 with fail
      generalize wr.alloc (.cells #[.bool bm, .int .i64 t', .slice A1 n1 c1, .slice B1 m1 c1'] 75) = W4 at *
      generalize wr.heap.size = r7 at *
      clear e0 e1 e2 e3 hbl
      obtain ⟨gb, cap, cs0, hv, hgb, hown, hcs⟩ := hD4.out.row.open' (by rw [mixL_len]; exact hlt : k < (mixL s ms k).length)
      injection hv with hv1 hv2 hv3
      subst hv1
      have hgr : gb < r := HNE.out gb rfl
      clear hown hcs hv2 hv3
      have hkl : k < (mixL s ms k).length := by rw [mixL_len]; exact hlt
      have q0 : W4.cell? ⟨r, 0, none⟩ = some (.slice (some ⟨gb, 0, none⟩) ms.length c2) := cell_of_row _ _ 0 _ _ (0, 0) hD4.out.out
      have hbit := hasB_bit hs hkk
      cases hb : s.testBit k
      · rw [hb] at hbit
        have f0 : W4.cell? ⟨r7, 0, none⟩ = some (.bool bm) := cell_of_row _ _ 0 _ _ (0, 0) hbx
        cases bm
        · have hsame := mixL_same (s := s) HX.out (by unfold delOne; rw [hbit]; rfl)
          go_wp2_with fail
          refine (has_run _ _ _).mono ?_
          rintro e w2 ⟨rfl, rfl⟩
          rw [hbit]
          go_wp2_with fail
          go_roundw
          case rel => exact ⟨k + 1, by omega, by go_num, by rw [hsame]; exact hD4⟩
          case measure => simp [intOf]; omega
        · have f1 : W4.cell? ⟨r7, 1, none⟩ = some (.int .i64 t') := cell_of_row _ _ 1 _ _ (0, 0) hbx
          have f2 : W4.cell? ⟨r7, 2, none⟩ = some (.slice A1 n1 c1) := cell_of_row _ _ 2 _ _ (0, 0) hbx
          have f3 : W4.cell? ⟨r7, 3, none⟩ = some (.slice B1 m1 c1') := cell_of_row _ _ 3 _ _ (0, 0) hbx
          have HWT := Lib.hid (HM1.out rfl)
          go_wp2_with fail
          refine (has_run _ _ _).mono ?_
          rintro e w2 ⟨rfl, rfl⟩
          rw [hbit]
          go_upto_region 10 with fail
          have hDd := Lib.hid (hD4.out.bel (W' := W4.drew) ⟨rfl, rfl, rfl, Nat.le_refl _, fun _ _ => rfl⟩)
          have HTd := Lib.hid (HT4.out.below (w' := W4.drew) ⟨rfl, rfl, rfl, Nat.le_refl _, fun _ _ => rfl⟩)
          go_region_with ((go_at_call 96; refine (delT_run _ ms.length s k 2 T _ _ _ _ hs (by exact HTd.out) HWT.out).mono ?_; rintro e W5 ⟨y0, y1, y2, rfl, hT5, hb5⟩; obtain ⟨t2, E1, n2, d1, E2, n3, d2, rfl, rfl, rfl⟩ := hT5.form; have hD5 := Lib.hid (hDd.out.bel (W' := W5) hb5); have HT5 := Lib.hid hT5; have q5 := cell_of_row W5 r 0 _ _ (0, 0) hD5.out.out; obtain ⟨⟨u0, p0⟩, ⟨u1, p1⟩, ⟨u2, p2⟩, ⟨u3, p3⟩, hfz, hgl⟩ := hD5.out.cells hkl; have z1 := hfz (k * 4 + 1); have z2 := hfz (k * 4 + 2); have z3 := hfz (k * 4 + 3)))
          all_goals
            have hset := hD5.out.store3 (k := k) (m := (true, delT s k 3 T)) HG.out (by omega) hkl (fun x hx => by rw [mixL_get HX.out] at hx; rw [← Option.some.inj hx]) (HT5.out.imp (fun q _ hq => by
              have h1 : W4.heap.size ≤ q := hq
              have h2 : r < W4.heap.size := (Array.getElem?_eq_some_iff.1 hD4.out.out).1
              have h3 : g + 1 < W4.heap.size := (Array.getElem?_eq_some_iff.1 hD4.out.res).1
              omega))
            rw [show (mixL s ms k).set k (true, delT s k 3 T) = mixL s ms (k + 1) by rw [← mixL_set HX.out]; unfold delOne; rw [hbit]; rfl] at hset
            have HSET := Lib.hid hset
            clear hset hfz
            go_wp2_with fail
            go_roundw
            case rel => exact ⟨k + 1, by omega, by go_num, by first | exact HSET | exact Lib.hid (HSET.out.bel ⟨rfl, rfl, rfl, Nat.le_refl _, fun _ _ => rfl⟩)⟩
            case measure => simp [intOf]; omega
      · rw [hb] at hbit
        obtain ⟨⟨u0, p0⟩, ⟨u1, p1⟩, ⟨u2, p2⟩, ⟨u3, p3⟩, hfz, hgl⟩ := hD4.out.cells hkl
        have z0 := hfz (k * 4)
        have z1 := hfz (k * 4 + 1)
        have z2 := hfz (k * 4 + 2)
        have z3 := hfz (k * 4 + 3)
        have hset := hD4.out.store4 (k := k) (m := (false, .mk 0 [] [])) (y0 := .int .i64 0) (y1 := .slice none 0 0) (y2 := .slice none 0 0) HG.out (by omega) hkl (TAt.empty _ 2 _ none none 0 0)
        rw [show (mixL s ms k).set k (false, .mk 0 [] []) = mixL s ms (k + 1) by rw [← mixL_set HX.out]; unfold delOne; rw [hbit]; rfl] at hset
        have HSET := Lib.hid hset
        clear hset hfz
        go_wp2_with fail
        refine (has_run _ _ _).mono ?_
        rintro e w2 ⟨rfl, rfl⟩
        rw [hbit]
        go_wp2_with fail
        go_roundw
        case rel => exact ⟨k + 1, by omega, by go_num, HSET⟩
        case measure => simp [intOf]; omega
    · obtain rfl : k = ms.length := by omega
      have hfull : mixL s ms ms.length = delM s ms := by
        unfold mixL
        rw [List.drop_length, List.append_nil, ← delM_len s ms, List.take_length]
      rw [hfull] at hD
      have z0 : wr.cell? ⟨g + 1, 0, none⟩ = some (.slice none 0 0) := cell_of_row _ _ 0 _ _ (0, 0) hD.out.res
      have zf : wr.frozen? ⟨g + 1, 0, none⟩ = false := by simp [World.frozen?, hD.out.res]
      have q0 : wr.cell? ⟨r, 0, none⟩ = some (.slice A2 ms.length c2) := cell_of_row _ _ 0 _ _ (0, 0) hD.out.out
      have hzl := cell_lt z0
      go_wp2_with fail
      refine bodyPost_ret (v := .agg #[.slice A2 ms.length c2]) ?_ rfl ⟨_, rfl, ?_, ?_⟩
      · simp [results, Tryz.results53, go_sem, z0]
      · have hk := hD.out.row.keep (W' := wr.setCell ⟨g + 1, 0, none⟩ (.slice A2 ms.length c2)) (fun q hq _ => Below.heap_setCell _ _ _ _ (by simp; omega))
        exact hk.mems (fun q hq => by have := HG.out; omega)
      · exact bset hD.out.below (p := ⟨g + 1, 0, none⟩) (by show w.heap.size ≤ g + 1; have := HG.out; omega) _

theorem decl_one (s k : Nat) (m : Mem) : (delOne s k m).1 = (m.1 && !hasB (s : Int) (k : Int)) := by
  unfold delOne
  cases h : hasB (s : Int) (k : Int)
  · obtain ⟨b, T⟩ := m
    cases b <;> simp
  · simp

theorem decl_del {ms : List Mem} {s : Nat} (hl : ms.length ≤ 10) (hs : s < 1024) : declS (delM s ms) (delM s ms).length = minS (declS ms ms.length) s := by
  apply Nat.eq_of_testBit_eq
  intro k
  rw [minS_bit, declS_iff, declS_iff, delM_len]
  rcases Nat.lt_or_ge k ms.length with hk | hk
  · have hm : ms[k]? = some (ms[k]'hk) := List.getElem?_eq_getElem hk
    have hd := delM_get (s := s) hm
    rw [List.getD_eq_getElem?_getD, hd, List.getD_eq_getElem?_getD, hm]
    simp only [Option.getD_some, hk, decide_true, Bool.true_and]
    rw [decl_one, hasB_bit hs (by omega)]
  · rw [decide_eq_false (by omega)]; rfl

theorem trOf_del {ms : List Mem} {s k : Nat} {m : Mem} (hs : s < 1024) (hk : k < 10) (h : ms[k]? = some m) (hd : m.1 = true) (hb : s.testBit k = false) : trOf (delM s ms) k = delT s k 3 m.2 := by
  rw [trOf_get (delM_get h)]
  unfold delOne
  rw [hasB_bit hs hk, hb, hd]
  simp

end Go.Proofs.YtacpfcckilnbfaaGreat.D3
namespace Go.Proofs.YtacpfcckilnbfaaGreat

end Go.Proofs.YtacpfcckilnbfaaGreat

namespace Go.Proofs.YtacpfcckilnbfaaGreat
set_option linter.unusedVariables false
set_option linter.unusedSimpArgs false
open Go.RowKit

theorem set4_far {W : World} {r q : Nat} (u0 u1 u2 u3 : Value) (h : q ≠ r) : ((((W.setCell ⟨r, 0, none⟩ u0).setCell ⟨r, 1, none⟩ u1).setCell ⟨r, 2, none⟩ u2).setCell ⟨r, 3, none⟩ u3).heap[q]? = W.heap[q]? :=
  (Below.heap_setCell _ _ _ q h).trans ((Below.heap_setCell _ _ _ q h).trans ((Below.heap_setCell _ _ _ q h).trans (Below.heap_setCell _ _ _ q h)))

theorem set4_row {W : World} {r : Nat} {a0 a1 a2 a3 : Value} {t : TypeId} (u0 u1 u2 u3 : Value) (h : W.heap[r]? = some (.cells #[a0, a1, a2, a3] t (0, 0))) : ((((W.setCell ⟨r, 0, none⟩ u0).setCell ⟨r, 1, none⟩ u1).setCell ⟨r, 2, none⟩ u2).setCell ⟨r, 3, none⟩ u3).heap[r]? = some (.cells #[u0, u1, u2, u3] t (0, 0)) := by
  simp [World.setCell, Array.getElem?_modify, h]

theorem set1_row {W : World} {r : Nat} {a0 a1 a2 a3 : Value} {t : TypeId} (u : Value) (h : W.heap[r]? = some (.cells #[a0, a1, a2, a3] t (0, 0))) : (W.setCell ⟨r, 1, none⟩ u).heap[r]? = some (.cells #[a0, u, a2, a3] t (0, 0)) := by
  simp [World.setCell, Array.getElem?_modify, h]

theorem set4_grown {A W : World} {r : Nat} (u0 u1 u2 u3 : Value) (sb : Nat) (h : A.grownBy W (some sb)) (hr : A.heap.size ≤ r) : A.grownBy ((((W.setCell ⟨r, 0, none⟩ u0).setCell ⟨r, 1, none⟩ u1).setCell ⟨r, 2, none⟩ u2).setCell ⟨r, 3, none⟩ u3) (some sb) :=
  gset (gset (gset (gset h (p := ⟨r, 0, none⟩) hr u0) (p := ⟨r, 1, none⟩) hr u1) (p := ⟨r, 2, none⟩) hr u2) (p := ⟨r, 3, none⟩) hr u3

theorem joinQ {P : Nat → Prop} {g r x : Nat} {v : Value} {b : Nat} (hv : ∀ q, v.ownBlock = some q → g + 2 ≤ q ∧ q < x) (hx : g + 2 ≤ x) (h : ((P b ∧ b < g) ∨ x ≤ b) ∧ b < r) : (((P b ∧ b < g) ∨ g + 2 ≤ b) ∧ v.ownBlock ≠ some b) ∧ b ≠ r := by
  refine ⟨⟨?_, fun e => ?_⟩, by have := h.2; omega⟩
  · rcases h.1 with h1 | h1
    · exact .inl h1
    · exact .inr (by omega)
  · have := hv b e
    rcases h.1 with h1 | h1 <;> omega

set_option maxRecDepth 100000 in
set_option maxHeartbeats 16000000 in
theorem joined_run (P : Nat → Prop) (tss : List (List Tree)) (all : Bool) (n : Nat) (v0 : Value) (w : World) (hn : tss.length = n) (hn10 : n ≤ 10) (h3 : ∀ ts ∈ tss, ts.length ≤ 3) (hwf : ∀ ts ∈ tss, ∀ T ∈ ts, WF n 2 T) (h : LLAt P w v0 tss) :
    Calls Tryz.prog 85 #[v0, .bool all] w fun e w' => ∃ v' ms, e = .returned (.tuple #[.agg #[v'], .int .i64 0]) ∧ MemsAt (fun b => P b ∨ w.heap.size ≤ b) 3 w' v' ms ∧ JoinL all n tss n ms ∧ Below w.heap.size w w' := by
  obtain ⟨A, c, rfl, hL⟩ := h
  obtain ⟨i4, hi4, hy0, hy1, hy2⟩ := info_parts infoMember
  have hb2 : Below w.heap.size w ((w.alloc (.cells #[.slice none 0 0] 27)).alloc (.cells #[.slice none 0 0] 27)) := balloc (balloc (bref w) _) _
  have k0 : ((w.alloc (.cells #[.slice none 0 0] 27)).alloc (.cells #[.slice none 0 0] 27)).heap[w.heap.size]? = some (.cells #[.slice none 0 0] 27 (0, 0)) := alloc_on (alloc_at rfl)
  have k1 : ((w.alloc (.cells #[.slice none 0 0] 27)).alloc (.cells #[.slice none 0 0] 27)).heap[w.heap.size + 1]? = some (.cells #[.slice none 0 0] 27 (0, 0)) := alloc_at (alloc_sz _ _)
  have hsz : ((w.alloc (.cells #[.slice none 0 0] 27)).alloc (.cells #[.slice none 0 0] 27)).heap.size = w.heap.size + 2 := by rw [alloc_sz, alloc_sz]
  have H := Lib.hid (fun k ts (ht : tss[k]? = some ts) => (by
    obtain ⟨b, off, u, e1, _, e3, e4⟩ := hL k ts ht
    exact ⟨b, off, u, e1, cell_lt e3, (hb2.cell (cell_lt e3)).trans e3, (e4.both (Q := fun b => P b ∧ b < w.heap.size) (fun _ _ _ => rfl) (fun k hk hp => ⟨hp, hk⟩)).below hb2⟩ : ∃ b off u, A = some ⟨b, off, none⟩ ∧ b < w.heap.size ∧ ((w.alloc (.cells #[.slice none 0 0] 27)).alloc (.cells #[.slice none 0 0] 27)).cell? ⟨b, off + k, none⟩ = some u ∧ ListT (fun b => P b ∧ b < w.heap.size) 2 ((w.alloc (.cells #[.slice none 0 0] 27)).alloc (.cells #[.slice none 0 0] 27)) u ts))
  have HB := Lib.hid hb2
  have K0 := Lib.hid k0
  have K1 := Lib.hid k1
  have H3 := Lib.hid h3
  have HWF := Lib.hid hwf
  have HN := Lib.hid hn
  rw [hn]
  clear hL hb2 k0 k1 h3 hwf hn
  go_enter Tryz.func85, Tryz.ntmps85
  go_upto_region 4 with fail
  generalize ((w.alloc (.cells #[.slice none 0 0] 27)).alloc (.cells #[.slice none 0 0] 27)) = W1 at *
  generalize hg : w.heap.size = g at *
  have HG := Lib.hid hg
  clear hg
  go_wp2_with fail
  go_loopw [21] (fun t W => ∃ (k : Nat) (v : Value) (ms : List Mem), k ≤ n ∧ t = .int .i64 k ∧ Hid (GRow (fun b => (P b ∧ b < g) ∨ g + 2 ≤ b) (g + 2) 3 W v ms) ∧ Hid (W.heap[g + 1]? = some (.cells #[v] 27 (0, 0))) ∧ Hid (JoinL all n tss k ms) ∧ Hid (W1.grownBy W (some (g + 1)))) (fun t _ => n - (intOf t).toNat)
  case atStart => exact ⟨0, .slice none 0 0, [], by omega, rfl, Lib.hid (GRow.nil _ _ _ _), K1, Lib.hid (JoinL.zero _ _ _), Lib.hid (World.grownBy.refl _ _)⟩
  case round =>
    obtain ⟨k, v, ms, hk, rfl, hRow, hOut, HJ, hGr⟩ := hrel
    have hwr := hGr.out.size
    by_cases hlt : k < n
    · obtain ⟨ts, hts⟩ : ∃ ts, tss[k]? = some ts := ⟨_, List.getElem?_eq_getElem (by rw [HN.out]; exact hlt)⟩
      obtain ⟨b, off, u, rfl, hbg, e0, hLu⟩ := H.out k ts hts
      have d0 := (World.cell?_of_block (a := ⟨b, off + k, none⟩) (hGr.out.block b (cell_lt e0) (by simp; omega))).trans e0
      have HLU := Lib.hid (hLu.both (w' := wr) (Q := fun b => P b ∧ b < g) (fun q hq hP => hGr.out.block q hq (by have := hP.2; simp; omega)) (fun _ _ h => h))
      have HTS := Lib.hid hts
      have hm3 := H3.out ts (List.mem_of_getElem? hts)
      have HWU := Lib.hid (HWF.out ts (List.mem_of_getElem? hts))
      obtain ⟨Au, cu, rfl⟩ := hLu.slice
      obtain ⟨nt, hnt⟩ : ∃ nt, ts.length = nt := ⟨_, rfl⟩
      have HNT := Lib.hid hnt
      rw [hnt] at hm3 HLU d0
      have HRW0 := hRow
      have HOW0 := hOut
      have HGR0 := hGr
      have HROX := Lib.hid (fun q (hq : v.ownBlock = some q) => (hRow.out.own q hq))
      clear hLu e0 hts hnt hRow hOut hGr
      obtain ⟨wo, rfl⟩ : ∃ wo : World, wo = wr := ⟨_, rfl⟩
      go_wp2_with fail
      clear d0
      go_loopw [27] (fun t W => ∃ j : Nat, j ≤ nt ∧ t = .int .i64 j ∧ Hid (Below wo.heap.size wo W)) (fun t _ => nt - (intOf t).toNat)
      case atStart => exact ⟨0, Nat.zero_le _, rfl, Lib.hid (bref _)⟩
      case round =>
        obtain ⟨j, hj, rfl, hBe⟩ := hrel
        have HLj := Lib.hid (HLU.out.below hBe.out)
        by_cases hlt2 : j < nt
        · obtain ⟨T, hT⟩ : ∃ T, ts[j]? = some T := ⟨_, List.getElem?_eq_getElem (by rw [HNT.out]; exact hlt2)⟩
          obtain ⟨Bn, cn, hBn, hLc⟩ := HLj.out
          injection hBn with q1 q2 q3
          subst q1
          obtain ⟨b', off', x0, x1, x2, rfl, _, f0, f1, f2, hTk⟩ := hLc j T hT
          obtain ⟨t', A', n', ca, B', m', cb, rfl, rfl, rfl⟩ := hTk.form
          have HTV := Lib.hid (hTk.below (balloc (bref wr) (.cells #[.int .i64 t', .slice A' n' ca, .slice B' m' cb] 73)))
          have HWT := Lib.hid (HWU.out T (List.mem_of_getElem? hT))
          have HB2 := Lib.hid (balloc hBe.out (.cells #[.int .i64 t', .slice A' n' ca, .slice B' m' cb] 73))
          clear hTk hLc hT q2 q3
          go_wp2_with fail
          refine (rtvalid_run _ n (by omega) 2 (by omega) T _ _ _ _ HTV.out HWT.out (sizeT2_le HWT.out)).mono ?_
          rintro e w5 ⟨rfl, hb5⟩
          have HB5 := Lib.hid (bstep HB2.out hb5)
          clear hb5
          go_wp2_with fail
          go_roundw
          case rel => exact ⟨j + 1, hlt2, by go_num, HB5⟩
          case measure => simp [intOf]; omega
        · obtain rfl : j = nt := by omega
          obtain ⟨wa, rfl⟩ : ∃ wa : World, wa = wr := ⟨_, rfl⟩
          go_wp2_with fail
          refine (different_run (fun b => P b ∧ b < g) ts _ _ (by rw [HNT.out]; exact hm3) (by exact HLj.out)).mono ?_
          rintro e Wb ⟨v12, ds, rfl, hLd, hDf, hbb⟩
          have HDF := Lib.hid hDf
          have hdl := hDf.len
          rw [HNT.out] at hdl
          have HBB := Lib.hid (bstep hBe.out hbb)
          have hLd' := hLd.both (w' := Wb) (Q := fun b => ((P b ∧ b < g) ∨ wo.heap.size ≤ b) ∧ b < Wb.heap.size) (fun _ _ _ => rfl) (fun b hb h => ⟨h.imp id (fun h2 => Nat.le_trans hBe.out.size h2), hb⟩)
          obtain ⟨Ad, cd, rfl⟩ := hLd'.slice
          obtain ⟨nd, hnd⟩ : ∃ nd, ds.length = nd := ⟨_, rfl⟩
          have HND := Lib.hid hnd
          rw [hnd] at hdl hLd'
          have HLD := Lib.hid hLd'
          rw [hnd]
          clear hLd hDf hbb hLd' hnd
          have HZA := Lib.hid (balloc HBB.out (.cells #[.bool false, .int .i64 0, .slice none 0 0, .slice none 0 0] 75))
          have HZK := Lib.hid (show (Wb.alloc (.cells #[.bool false, .int .i64 0, .slice none 0 0, .slice none 0 0] 75)).heap[Wb.heap.size]? = some (.cells #[.bool false, .int .i64 0, .slice none 0 0, .slice none 0 0] 75 (0, 0)) from alloc_at rfl)
          have HZL := Lib.hid (HLD.out.below (balloc (bref Wb) (.cells #[.bool false, .int .i64 0, .slice none 0 0, .slice none 0 0] 75)))
          have HZS := Lib.hid (show g + 2 ≤ Wb.heap.size ∧ wo.heap.size ≤ Wb.heap.size by have := HBB.out.size; omega)
          go_upto_region 18 with fail
          generalize (Wb.alloc (.cells #[.bool false, .int .i64 0, .slice none 0 0, .slice none 0 0] 75)) = W3 at *
          generalize Wb.heap.size = r at *
          have HRQ := Lib.hid HZS.out.1
          have hro := HZS.out.2
          have hrl : r < W3.heap.size := (Array.getElem?_eq_some_iff.1 HZK.out).1
          have HGX := Lib.hid (grown_trans HGR0.out (grown_below HZA.out))
          have hw1r : W1.heap.size ≤ r := Nat.le_trans hwr hro
          have HNOB := Lib.hid (fun q (hq : v.ownBlock = some q) => (show g + 2 ≤ q ∧ q < wo.heap.size from HROX.out q hq))
          by_cases hd0 : nd = 0
          · subst hd0
            have HMJ := Lib.hid (join_nil (all := all) (n := (n : Int)) HDF.out HND.out)
            have K6 := HZK
            have HT6 := Lib.hid (TAt.empty (fun b => ((P b ∧ b < g) ∨ g + 2 ≤ b) ∧ v.ownBlock ≠ some b) 2 W3 none none 0 0)
            have HG6 := HGX
            have L6 := Lib.hid (fun q (hq : q < wo.heap.size) => HZA.out.block q hq)
            go_upto_region 24 with fail
            generalize W3 = W6 at *
            have x0 : W6.cell? ⟨r, 0, none⟩ = some (.bool false) := cell_of_row _ _ 0 _ _ (0, 0) K6.out
            have x1 : W6.cell? ⟨r, 1, none⟩ = some (.int .i64 0) := cell_of_row _ _ 1 _ _ (0, 0) K6.out
            have x2 : W6.cell? ⟨r, 2, none⟩ = some (.slice none 0 0) := cell_of_row _ _ 2 _ _ (0, 0) K6.out
            have x3 : W6.cell? ⟨r, 3, none⟩ = some (.slice none 0 0) := cell_of_row _ _ 3 _ _ (0, 0) K6.out
            have hcb6 : W6.heap[g + 1]? = some (.cells #[v] 27 (0, 0)) := (L6.out (g + 1) (by omega)).trans HOW0.out
            have q2 : W6.cell? ⟨g + 1, 0, none⟩ = some v := cell_of_row _ _ 0 _ _ (0, 0) hcb6
            have HCB6 := Lib.hid hcb6
            obtain ⟨cs, hcs, hcl⟩ := HRW0.out.keep (W' := W6) (fun q _ hq => L6.out q hq)
            have hcn := hcs.1
            have HCSA := Lib.hid (hcs.alloc (.cells #[.bool false, .int .i64 0, .slice none 0 0, .slice none 0 0] 75))
            have HNEW := Lib.hid (cell_four_new W6 (.bool false) (.int .i64 0) (.slice none 0 0) (.slice none 0 0) 75)
            have HBA4 := Lib.hid (balloc (bref W6) (.cells #[.bool false, .int .i64 0, .slice none 0 0, .slice none 0 0] 75))
            have HSZ4 := Lib.hid (alloc_sz W6 (.cells #[.bool false, .int .i64 0, .slice none 0 0, .slice none 0 0] 75))
            have HCL := Lib.hid hcl
            have hz6 : r < W6.heap.size := cell_lt x0
            have hgr : g + 2 ≤ r := HRQ.out
            have HMK := Lib.hid (HJ.out.succ HTS.out HMJ.out)
            have HML := Lib.hid HJ.out.1
            clear hcs hcl hcb6
            go_wp2_with (at_builtin; refine wpList_append_lies _ rfl _ _ 25 rfl (g + 2) 75 i4 (.agg #[.bool false, .int .i64 0, .slice none 0 0, .slice none 0 0]) 4 64 Tryz.underlying25 hi4 hy0 hy1 hy2 rfl (by decide) _ ms.length cs rfl (by exact HCSA.out) ⟨_, 0, none⟩ 1 1 [.bool false, .int .i64 0, .slice none 0 0, .slice none 0 0] rfl rfl (by exact HNEW.out) (by intro u hu; simp at hu; rcases hu with rfl | rfl | rfl | rfl <;> rfl) (by omega) (by have := HML.out; unfold maxLen; omega) (by have := HML.out; omega) (by have := HSZ4.out; omega) _ rfl ?_; intro g4 cap4 W7 hown4 hgrow4 hat4 hlt4; have hcb5 : W7.heap[g + 1]? = some (.cells #[v] 27 (0, 0)) := (hgrow4.block (g + 1) (by have := HSZ4.out; omega) (fun e => by have := (HROX.out _ e.symm).1; omega)).trans ((HBA4.out.block (g + 1) (by omega)).trans HCB6.out); have s0 : W7.cell? ⟨g + 1, 0, none⟩ = some v := cell_of_row _ _ 0 _ _ (0, 0) hcb5; have sf : W7.frozen? ⟨g + 1, 0, none⟩ = false := by simp [World.frozen?, hcb5])
            have hgB : (W6.alloc (.cells #[.bool false, .int .i64 0, .slice none 0 0, .slice none 0 0] 75)).grownBy W7 v.ownBlock := ⟨hgrow4.os, hgrow4.tape, hgrow4.output, hgrow4.size, hgrow4.block⟩
            have hrow5 := GRow.append (Q := fun b => (P b ∧ b < g) ∨ g + 2 ≤ b) (m := (false, .mk 0 [] [])) (WA := W6.alloc (.cells #[.bool false, .int .i64 0, .slice none 0 0, .slice none 0 0] 75)) (fun k m hm => by
                obtain ⟨z0, z1, z2, e0, e1, e2, e3, e4⟩ := HCL.out k m hm
                exact ⟨z0, z1, z2, e0, e1, e2, e3, e4.below HBA4.out⟩) hcn (HT6.out.below HBA4.out) hown4 hgB hat4
            have HROW5 := Lib.hid (hrow5.keep (W' := W7.setCell ⟨g + 1, 0, none⟩ (.slice (some ⟨g4, 0, none⟩) (ms.length + 1) cap4)) (fun q hq _ => Below.heap_setCell _ _ _ _ (by show q ≠ g + 1; rcases hq with (hq | hq) | hq <;> omega)))
            have hset5 : (W7.setCell ⟨g + 1, 0, none⟩ (.slice (some ⟨g4, 0, none⟩) (ms.length + 1) cap4)).heap[g + 1]? = some (.cells #[.slice (some ⟨g4, 0, none⟩) (ms.length + 1) cap4] 27 (0, 0)) := by
              simp [World.setCell, Array.getElem?_modify, hcb5]
            have HSET5 := Lib.hid hset5
            have HGR5 := Lib.hid (grown_at (gown (grown_trans HG6.out (grown_below HBA4.out)) hgB (fun q hq => by have := (HROX.out q hq).1; omega)) 0 (.slice (some ⟨g4, 0, none⟩) (ms.length + 1) cap4))
            clear hown4 hgrow4 hat4 hlt4 hcb5 s0 sf hgB hrow5 hset5
            go_roundw
            case rel => exact ⟨k + 1, _, _, by omega, by go_num, HROW5, HSET5, HMK, HGR5⟩
            case measure => simp [intOf]; omega
          · by_cases hd1 : nd = 1
            · subst hd1
              obtain ⟨d, hd⟩ : ∃ d, ds[0]? = some d := ⟨_, List.getElem?_eq_getElem (by rw [HND.out]; omega)⟩
              have HMJ := Lib.hid (join_one (all := all) (n := (n : Int)) HDF.out HWU.out HND.out hd)
              obtain ⟨Bn, cn, hBn, hLc⟩ := HZL.out
              injection hBn with q1 q2 q3
              subst q1
              obtain ⟨b', off', x0, x1, x2, rfl, hP', f0, f1, f2, hTk⟩ := hLc 0 d hd
              obtain ⟨t', A', n', ca, B', m', cb, rfl, rfl, rfl⟩ := hTk.form
              rw [Nat.zero_mul, Nat.add_zero] at f0 f1 f2
              have z0 : W3.cell? ⟨r, 0, none⟩ = some (.bool false) := cell_of_row _ _ 0 _ _ (0, 0) HZK.out
              have z1 : W3.cell? ⟨r, 1, none⟩ = some (.int .i64 0) := cell_of_row _ _ 1 _ _ (0, 0) HZK.out
              have z2 : W3.cell? ⟨r, 2, none⟩ = some (.slice none 0 0) := cell_of_row _ _ 2 _ _ (0, 0) HZK.out
              have z3 : W3.cell? ⟨r, 3, none⟩ = some (.slice none 0 0) := cell_of_row _ _ 3 _ _ (0, 0) HZK.out
              have zf : ∀ j, W3.frozen? ⟨r, j, none⟩ = false := fun j => by simp [World.frozen?, HZK.out]
              have zf0 := zf 0
              have zf1 := zf 1
              have zf2 := zf 2
              have zf3 := zf 3
              have hTP := hTk.imp (Q := fun b => (((P b ∧ b < g) ∨ g + 2 ≤ b) ∧ v.ownBlock ≠ some b) ∧ b ≠ r) (fun b hb hP => joinQ HNOB.out (by omega) hP)
              have K6 := Lib.hid (set4_row (.bool true) (.int .i64 t') (.slice A' n' ca) (.slice B' m' cb) HZK.out)
              have L6 := Lib.hid (fun q (hq : q < wo.heap.size) => (set4_far (W := W3) (.bool true) (.int .i64 t') (.slice A' n' ca) (.slice B' m' cb) (by omega : q ≠ r)).trans (HZA.out.block q hq))
              have HT6 := Lib.hid ((TAt.both (w' := ((((W3.setCell ⟨r, 0, none⟩ (.bool true)).setCell ⟨r, 1, none⟩ (.int .i64 t')).setCell ⟨r, 2, none⟩ (.slice A' n' ca)).setCell ⟨r, 3, none⟩ (.slice B' m' cb))) (Q := fun b => ((P b ∧ b < g) ∨ g + 2 ≤ b) ∧ v.ownBlock ≠ some b) (fun q hq hP => set4_far _ _ _ _ hP.2) (fun q _ h => h.1) _ _ _ _ _ hTP).up)
              have HG6 := Lib.hid (set4_grown (.bool true) (.int .i64 t') (.slice A' n' ca) (.slice B' m' cb) (g + 1) HGX.out hw1r)
              clear hTk hLc hTP hd q2 q3 zf
              go_upto_region 24 with fail
              clear z0 z1 z2 z3 zf0 zf1 zf2 zf3 f0 f1 f2
              generalize ((((W3.setCell ⟨r, 0, none⟩ (.bool true)).setCell ⟨r, 1, none⟩ (.int .i64 t')).setCell ⟨r, 2, none⟩ (.slice A' n' ca)).setCell ⟨r, 3, none⟩ (.slice B' m' cb)) = W6 at *
              have x0 : W6.cell? ⟨r, 0, none⟩ = some (.bool true) := cell_of_row _ _ 0 _ _ (0, 0) K6.out
              have x1 : W6.cell? ⟨r, 1, none⟩ = some (.int .i64 t') := cell_of_row _ _ 1 _ _ (0, 0) K6.out
              have x2 : W6.cell? ⟨r, 2, none⟩ = some ((.slice A' n' ca)) := cell_of_row _ _ 2 _ _ (0, 0) K6.out
              have x3 : W6.cell? ⟨r, 3, none⟩ = some ((.slice B' m' cb)) := cell_of_row _ _ 3 _ _ (0, 0) K6.out
              have hcb6 : W6.heap[g + 1]? = some (.cells #[v] 27 (0, 0)) := (L6.out (g + 1) (by omega)).trans HOW0.out
              have q2 : W6.cell? ⟨g + 1, 0, none⟩ = some v := cell_of_row _ _ 0 _ _ (0, 0) hcb6
              have HCB6 := Lib.hid hcb6
              obtain ⟨cs, hcs, hcl⟩ := HRW0.out.keep (W' := W6) (fun q _ hq => L6.out q hq)
              have hcn := hcs.1
              have HCSA := Lib.hid (hcs.alloc (.cells #[.bool true, .int .i64 t', (.slice A' n' ca), (.slice B' m' cb)] 75))
              have HNEW := Lib.hid (cell_four_new W6 (.bool true) (.int .i64 t') ((.slice A' n' ca)) ((.slice B' m' cb)) 75)
              have HBA4 := Lib.hid (balloc (bref W6) (.cells #[.bool true, .int .i64 t', (.slice A' n' ca), (.slice B' m' cb)] 75))
              have HSZ4 := Lib.hid (alloc_sz W6 (.cells #[.bool true, .int .i64 t', (.slice A' n' ca), (.slice B' m' cb)] 75))
              have HCL := Lib.hid hcl
              have hz6 : r < W6.heap.size := cell_lt x0
              have hgr : g + 2 ≤ r := HRQ.out
              have HMK := Lib.hid (HJ.out.succ HTS.out HMJ.out)
              have HML := Lib.hid HJ.out.1
              clear hcs hcl hcb6
              go_wp2_with (at_builtin; refine wpList_append_lies _ rfl _ _ 25 rfl (g + 2) 75 i4 (.agg #[.bool false, .int .i64 0, .slice none 0 0, .slice none 0 0]) 4 64 Tryz.underlying25 hi4 hy0 hy1 hy2 rfl (by decide) _ ms.length cs rfl (by exact HCSA.out) ⟨_, 0, none⟩ 1 1 [.bool true, .int .i64 t', (.slice A' n' ca), (.slice B' m' cb)] rfl rfl (by exact HNEW.out) (by intro u hu; simp at hu; rcases hu with rfl | rfl | rfl | rfl <;> rfl) (by omega) (by have := HML.out; unfold maxLen; omega) (by have := HML.out; omega) (by have := HSZ4.out; omega) _ rfl ?_; intro g4 cap4 W7 hown4 hgrow4 hat4 hlt4; have hcb5 : W7.heap[g + 1]? = some (.cells #[v] 27 (0, 0)) := (hgrow4.block (g + 1) (by have := HSZ4.out; omega) (fun e => by have := (HROX.out _ e.symm).1; omega)).trans ((HBA4.out.block (g + 1) (by omega)).trans HCB6.out); have s0 : W7.cell? ⟨g + 1, 0, none⟩ = some v := cell_of_row _ _ 0 _ _ (0, 0) hcb5; have sf : W7.frozen? ⟨g + 1, 0, none⟩ = false := by simp [World.frozen?, hcb5])
              have hgB : (W6.alloc (.cells #[.bool true, .int .i64 t', (.slice A' n' ca), (.slice B' m' cb)] 75)).grownBy W7 v.ownBlock := ⟨hgrow4.os, hgrow4.tape, hgrow4.output, hgrow4.size, hgrow4.block⟩
              have hrow5 := GRow.append (Q := fun b => (P b ∧ b < g) ∨ g + 2 ≤ b) (m := (true, d)) (WA := W6.alloc (.cells #[.bool true, .int .i64 t', (.slice A' n' ca), (.slice B' m' cb)] 75)) (fun k m hm => by
                  obtain ⟨z0, z1, z2, e0, e1, e2, e3, e4⟩ := HCL.out k m hm
                  exact ⟨z0, z1, z2, e0, e1, e2, e3, e4.below HBA4.out⟩) hcn (HT6.out.below HBA4.out) hown4 hgB hat4
              have HROW5 := Lib.hid (hrow5.keep (W' := W7.setCell ⟨g + 1, 0, none⟩ (.slice (some ⟨g4, 0, none⟩) (ms.length + 1) cap4)) (fun q hq _ => Below.heap_setCell _ _ _ _ (by show q ≠ g + 1; rcases hq with (hq | hq) | hq <;> omega)))
              have hset5 : (W7.setCell ⟨g + 1, 0, none⟩ (.slice (some ⟨g4, 0, none⟩) (ms.length + 1) cap4)).heap[g + 1]? = some (.cells #[.slice (some ⟨g4, 0, none⟩) (ms.length + 1) cap4] 27 (0, 0)) := by
                simp [World.setCell, Array.getElem?_modify, hcb5]
              have HSET5 := Lib.hid hset5
              have HGR5 := Lib.hid (grown_at (gown (grown_trans HG6.out (grown_below HBA4.out)) hgB (fun q hq => by have := (HROX.out q hq).1; omega)) 0 (.slice (some ⟨g4, 0, none⟩) (ms.length + 1) cap4))
              clear hown4 hgrow4 hat4 hlt4 hcb5 s0 sf hgB hrow5 hset5
              go_roundw
              case rel => exact ⟨k + 1, _, _, by omega, by go_num, HROW5, HSET5, HMK, HGR5⟩
              case measure => simp [intOf]; omega
            · have z0 : W3.cell? ⟨r, 0, none⟩ = some (.bool false) := cell_of_row _ _ 0 _ _ (0, 0) HZK.out
              have z1 : W3.cell? ⟨r, 1, none⟩ = some (.int .i64 0) := cell_of_row _ _ 1 _ _ (0, 0) HZK.out
              have z2 : W3.cell? ⟨r, 2, none⟩ = some (.slice none 0 0) := cell_of_row _ _ 2 _ _ (0, 0) HZK.out
              have z3 : W3.cell? ⟨r, 3, none⟩ = some (.slice none 0 0) := cell_of_row _ _ 3 _ _ (0, 0) HZK.out
              have zf : ∀ j, W3.frozen? ⟨r, j, none⟩ = false := fun j => by simp [World.frozen?, HZK.out]
              have zf0 := zf 0
              have zf1 := zf 1
              have zf2 := zf 2
              have zf3 := zf 3
              clear zf
              have q1 : ((nd : Int) == 1) = false := by rw [beq_eq_false_iff_ne]; omega
              cases all
              · have HMJ := Lib.hid (join_more (all := false) (n := (n : Int)) (thr := 1) HDF.out HWU.out (by rw [HNT.out]; exact hm3) (by rw [HND.out]; omega) (by simp [HND.out]))
                have HLP := Lib.hid (HZL.out.both (w' := W3) (Q := fun b => (((P b ∧ b < g) ∨ g + 2 ≤ b) ∧ v.ownBlock ≠ some b) ∧ b ≠ r) (fun _ _ _ => rfl) (fun b hb hP => joinQ HNOB.out (by omega) hP))
                have K6 := Lib.hid (show ((((W3.setCell ⟨r, 0, none⟩ (.bool true)).setCell ⟨r, 1, none⟩ (.int .i64 1)).setCell ⟨r, 2, none⟩ (.slice none 0 0)).setCell ⟨r, 3, none⟩ (.slice Ad nd cd)).heap[r]? = some (.cells #[.bool true, .int .i64 1, .slice none 0 0, .slice Ad nd cd] 75 (0, 0)) by
                  have h := set4_row (.bool true) (.int .i64 1) (.slice none 0 0) (.slice Ad nd cd) HZK.out
                  exact h)
                have FAR := (fun q (hne : q ≠ r) => set4_far _ _ _ _ hne : ∀ q, q ≠ r → ((((W3.setCell ⟨r, 0, none⟩ (.bool true)).setCell ⟨r, 1, none⟩ (.int .i64 1)).setCell ⟨r, 2, none⟩ (.slice none 0 0)).setCell ⟨r, 3, none⟩ (.slice Ad nd cd)).heap[q]? = W3.heap[q]?)
                have L6 := Lib.hid (fun q (hq : q < wo.heap.size) => (FAR q (by omega)).trans (HZA.out.block q hq))
                have HT6 := Lib.hid (show TAt (fun b => ((P b ∧ b < g) ∨ g + 2 ≤ b) ∧ v.ownBlock ≠ some b) 3 ((((W3.setCell ⟨r, 0, none⟩ (.bool true)).setCell ⟨r, 1, none⟩ (.int .i64 1)).setCell ⟨r, 2, none⟩ (.slice none 0 0)).setCell ⟨r, 3, none⟩ (.slice Ad nd cd)) (.int .i64 1) (.slice none 0 0) (.slice Ad nd cd) (.mk 1 [] ds) from
                  TAt.of_parts (by simp) (by rw [HND.out]; omega) ⟨none, 0, rfl, fun k hk => by simp at hk⟩ (HLP.out.both (fun q hq hP => FAR q hP.2) (fun _ _ h => h.1)))
                have HG6 := Lib.hid (set4_grown (.bool true) (.int .i64 1) (.slice none 0 0) (.slice Ad nd cd) (g + 1) HGX.out hw1r)
                clear FAR
                go_upto_region 22 with fail
                clear z0 z1 z2 z3 zf0 zf1 zf2 zf3
                have K5 := Lib.hid (set4_row (.bool true) (.int .i64 1) (.slice none 0 0) (.slice Ad nd cd) HZK.out)
                generalize ((((W3.setCell ⟨r, 0, none⟩ (.bool true)).setCell ⟨r, 1, none⟩ (.int .i64 1)).setCell ⟨r, 2, none⟩ (.slice none 0 0)).setCell ⟨r, 3, none⟩ (.slice Ad nd cd)) = W5 at *
                skip
                go_upto_region 24 with fail
                generalize W5 = W6 at *
                have x0 : W6.cell? ⟨r, 0, none⟩ = some (.bool true) := cell_of_row _ _ 0 _ _ (0, 0) K6.out
                have x1 : W6.cell? ⟨r, 1, none⟩ = some (.int .i64 1) := cell_of_row _ _ 1 _ _ (0, 0) K6.out
                have x2 : W6.cell? ⟨r, 2, none⟩ = some ((.slice none 0 0)) := cell_of_row _ _ 2 _ _ (0, 0) K6.out
                have x3 : W6.cell? ⟨r, 3, none⟩ = some ((.slice Ad nd cd)) := cell_of_row _ _ 3 _ _ (0, 0) K6.out
                have hcb6 : W6.heap[g + 1]? = some (.cells #[v] 27 (0, 0)) := (L6.out (g + 1) (by omega)).trans HOW0.out
                have q2 : W6.cell? ⟨g + 1, 0, none⟩ = some v := cell_of_row _ _ 0 _ _ (0, 0) hcb6
                have HCB6 := Lib.hid hcb6
                obtain ⟨cs, hcs, hcl⟩ := HRW0.out.keep (W' := W6) (fun q _ hq => L6.out q hq)
                have hcn := hcs.1
                have HCSA := Lib.hid (hcs.alloc (.cells #[.bool true, .int .i64 1, (.slice none 0 0), (.slice Ad nd cd)] 75))
                have HNEW := Lib.hid (cell_four_new W6 (.bool true) (.int .i64 1) ((.slice none 0 0)) ((.slice Ad nd cd)) 75)
                have HBA4 := Lib.hid (balloc (bref W6) (.cells #[.bool true, .int .i64 1, (.slice none 0 0), (.slice Ad nd cd)] 75))
                have HSZ4 := Lib.hid (alloc_sz W6 (.cells #[.bool true, .int .i64 1, (.slice none 0 0), (.slice Ad nd cd)] 75))
                have HCL := Lib.hid hcl
                have hz6 : r < W6.heap.size := cell_lt x0
                have hgr : g + 2 ≤ r := HRQ.out
                have HMK := Lib.hid (HJ.out.succ HTS.out HMJ.out)
                have HML := Lib.hid HJ.out.1
                clear hcs hcl hcb6
                go_wp2_with (at_builtin; refine wpList_append_lies _ rfl _ _ 25 rfl (g + 2) 75 i4 (.agg #[.bool false, .int .i64 0, .slice none 0 0, .slice none 0 0]) 4 64 Tryz.underlying25 hi4 hy0 hy1 hy2 rfl (by decide) _ ms.length cs rfl (by exact HCSA.out) ⟨_, 0, none⟩ 1 1 [.bool true, .int .i64 1, (.slice none 0 0), (.slice Ad nd cd)] rfl rfl (by exact HNEW.out) (by intro u hu; simp at hu; rcases hu with rfl | rfl | rfl | rfl <;> rfl) (by omega) (by have := HML.out; unfold maxLen; omega) (by have := HML.out; omega) (by have := HSZ4.out; omega) _ rfl ?_; intro g4 cap4 W7 hown4 hgrow4 hat4 hlt4; have hcb5 : W7.heap[g + 1]? = some (.cells #[v] 27 (0, 0)) := (hgrow4.block (g + 1) (by have := HSZ4.out; omega) (fun e => by have := (HROX.out _ e.symm).1; omega)).trans ((HBA4.out.block (g + 1) (by omega)).trans HCB6.out); have s0 : W7.cell? ⟨g + 1, 0, none⟩ = some v := cell_of_row _ _ 0 _ _ (0, 0) hcb5; have sf : W7.frozen? ⟨g + 1, 0, none⟩ = false := by simp [World.frozen?, hcb5])
                have hgB : (W6.alloc (.cells #[.bool true, .int .i64 1, (.slice none 0 0), (.slice Ad nd cd)] 75)).grownBy W7 v.ownBlock := ⟨hgrow4.os, hgrow4.tape, hgrow4.output, hgrow4.size, hgrow4.block⟩
                have hrow5 := GRow.append (Q := fun b => (P b ∧ b < g) ∨ g + 2 ≤ b) (m := (true, .mk 1 [] ds)) (WA := W6.alloc (.cells #[.bool true, .int .i64 1, (.slice none 0 0), (.slice Ad nd cd)] 75)) (fun k m hm => by
                    obtain ⟨z0, z1, z2, e0, e1, e2, e3, e4⟩ := HCL.out k m hm
                    exact ⟨z0, z1, z2, e0, e1, e2, e3, e4.below HBA4.out⟩) hcn (HT6.out.below HBA4.out) hown4 hgB hat4
                have HROW5 := Lib.hid (hrow5.keep (W' := W7.setCell ⟨g + 1, 0, none⟩ (.slice (some ⟨g4, 0, none⟩) (ms.length + 1) cap4)) (fun q hq _ => Below.heap_setCell _ _ _ _ (by show q ≠ g + 1; rcases hq with (hq | hq) | hq <;> omega)))
                have hset5 : (W7.setCell ⟨g + 1, 0, none⟩ (.slice (some ⟨g4, 0, none⟩) (ms.length + 1) cap4)).heap[g + 1]? = some (.cells #[.slice (some ⟨g4, 0, none⟩) (ms.length + 1) cap4] 27 (0, 0)) := by
                  simp [World.setCell, Array.getElem?_modify, hcb5]
                have HSET5 := Lib.hid hset5
                have HGR5 := Lib.hid (grown_at (gown (grown_trans HG6.out (grown_below HBA4.out)) hgB (fun q hq => by have := (HROX.out q hq).1; omega)) 0 (.slice (some ⟨g4, 0, none⟩) (ms.length + 1) cap4))
                clear hown4 hgrow4 hat4 hlt4 hcb5 s0 sf hgB hrow5 hset5
                go_roundw
                case rel => exact ⟨k + 1, _, _, by omega, by go_num, HROW5, HSET5, HMK, HGR5⟩
                case measure => simp [intOf]; omega
              · have HMJ := Lib.hid (join_more (all := true) (n := (n : Int)) (thr := (nd : Int)) HDF.out HWU.out (by rw [HNT.out]; exact hm3) (by rw [HND.out]; omega) (by simp [HND.out]))
                have HLP := Lib.hid (HZL.out.both (w' := W3) (Q := fun b => (((P b ∧ b < g) ∨ g + 2 ≤ b) ∧ v.ownBlock ≠ some b) ∧ b ≠ r) (fun _ _ _ => rfl) (fun b hb hP => joinQ HNOB.out (by omega) hP))
                have K6 := Lib.hid (show (((((W3.setCell ⟨r, 0, none⟩ (.bool true)).setCell ⟨r, 1, none⟩ (.int .i64 1)).setCell ⟨r, 2, none⟩ (.slice none 0 0)).setCell ⟨r, 3, none⟩ (.slice Ad nd cd)).setCell ⟨r, 1, none⟩ (.int .i64 (nd : Int))).heap[r]? = some (.cells #[.bool true, .int .i64 (nd : Int), .slice none 0 0, .slice Ad nd cd] 75 (0, 0)) by
                  have h := set4_row (.bool true) (.int .i64 1) (.slice none 0 0) (.slice Ad nd cd) HZK.out
                  exact set1_row _ h)
                have FAR := (fun q (hne : q ≠ r) => (Below.heap_setCell _ _ _ q hne).trans (set4_far _ _ _ _ hne) : ∀ q, q ≠ r → (((((W3.setCell ⟨r, 0, none⟩ (.bool true)).setCell ⟨r, 1, none⟩ (.int .i64 1)).setCell ⟨r, 2, none⟩ (.slice none 0 0)).setCell ⟨r, 3, none⟩ (.slice Ad nd cd)).setCell ⟨r, 1, none⟩ (.int .i64 (nd : Int))).heap[q]? = W3.heap[q]?)
                have L6 := Lib.hid (fun q (hq : q < wo.heap.size) => (FAR q (by omega)).trans (HZA.out.block q hq))
                have HT6 := Lib.hid (show TAt (fun b => ((P b ∧ b < g) ∨ g + 2 ≤ b) ∧ v.ownBlock ≠ some b) 3 (((((W3.setCell ⟨r, 0, none⟩ (.bool true)).setCell ⟨r, 1, none⟩ (.int .i64 1)).setCell ⟨r, 2, none⟩ (.slice none 0 0)).setCell ⟨r, 3, none⟩ (.slice Ad nd cd)).setCell ⟨r, 1, none⟩ (.int .i64 (nd : Int))) (.int .i64 (nd : Int)) (.slice none 0 0) (.slice Ad nd cd) (.mk (nd : Int) [] ds) from
                  TAt.of_parts (by simp) (by rw [HND.out]; omega) ⟨none, 0, rfl, fun k hk => by simp at hk⟩ (HLP.out.both (fun q hq hP => FAR q hP.2) (fun _ _ h => h.1)))
                have HG6 := Lib.hid (gset (set4_grown (.bool true) (.int .i64 1) (.slice none 0 0) (.slice Ad nd cd) (g + 1) HGX.out hw1r) (p := ⟨r, 1, none⟩) hw1r (.int .i64 (nd : Int)))
                clear FAR
                go_upto_region 22 with fail
                clear z0 z1 z2 z3 zf0 zf1 zf2 zf3
                have K5 := Lib.hid (set4_row (.bool true) (.int .i64 1) (.slice none 0 0) (.slice Ad nd cd) HZK.out)
                generalize ((((W3.setCell ⟨r, 0, none⟩ (.bool true)).setCell ⟨r, 1, none⟩ (.int .i64 1)).setCell ⟨r, 2, none⟩ (.slice none 0 0)).setCell ⟨r, 3, none⟩ (.slice Ad nd cd)) = W5 at *
                have z1 : W5.cell? ⟨r, 1, none⟩ = some (.int .i64 1) := cell_of_row _ _ 1 _ _ (0, 0) K5.out
                have zf1 : W5.frozen? ⟨r, 1, none⟩ = false := by simp [World.frozen?, K5.out]
                go_upto_region 24 with fail
                clear z1 zf1
                generalize (W5.setCell ⟨r, 1, none⟩ (.int .i64 (nd : Int))) = W6 at *
                have x0 : W6.cell? ⟨r, 0, none⟩ = some (.bool true) := cell_of_row _ _ 0 _ _ (0, 0) K6.out
                have x1 : W6.cell? ⟨r, 1, none⟩ = some (.int .i64 (nd : Int)) := cell_of_row _ _ 1 _ _ (0, 0) K6.out
                have x2 : W6.cell? ⟨r, 2, none⟩ = some ((.slice none 0 0)) := cell_of_row _ _ 2 _ _ (0, 0) K6.out
                have x3 : W6.cell? ⟨r, 3, none⟩ = some ((.slice Ad nd cd)) := cell_of_row _ _ 3 _ _ (0, 0) K6.out
                have hcb6 : W6.heap[g + 1]? = some (.cells #[v] 27 (0, 0)) := (L6.out (g + 1) (by omega)).trans HOW0.out
                have q2 : W6.cell? ⟨g + 1, 0, none⟩ = some v := cell_of_row _ _ 0 _ _ (0, 0) hcb6
                have HCB6 := Lib.hid hcb6
                obtain ⟨cs, hcs, hcl⟩ := HRW0.out.keep (W' := W6) (fun q _ hq => L6.out q hq)
                have hcn := hcs.1
                have HCSA := Lib.hid (hcs.alloc (.cells #[.bool true, .int .i64 (nd : Int), (.slice none 0 0), (.slice Ad nd cd)] 75))
                have HNEW := Lib.hid (cell_four_new W6 (.bool true) (.int .i64 (nd : Int)) ((.slice none 0 0)) ((.slice Ad nd cd)) 75)
                have HBA4 := Lib.hid (balloc (bref W6) (.cells #[.bool true, .int .i64 (nd : Int), (.slice none 0 0), (.slice Ad nd cd)] 75))
                have HSZ4 := Lib.hid (alloc_sz W6 (.cells #[.bool true, .int .i64 (nd : Int), (.slice none 0 0), (.slice Ad nd cd)] 75))
                have HCL := Lib.hid hcl
                have hz6 : r < W6.heap.size := cell_lt x0
                have hgr : g + 2 ≤ r := HRQ.out
                have HMK := Lib.hid (HJ.out.succ HTS.out HMJ.out)
                have HML := Lib.hid HJ.out.1
                clear hcs hcl hcb6
                go_wp2_with (at_builtin; refine wpList_append_lies _ rfl _ _ 25 rfl (g + 2) 75 i4 (.agg #[.bool false, .int .i64 0, .slice none 0 0, .slice none 0 0]) 4 64 Tryz.underlying25 hi4 hy0 hy1 hy2 rfl (by decide) _ ms.length cs rfl (by exact HCSA.out) ⟨_, 0, none⟩ 1 1 [.bool true, .int .i64 (nd : Int), (.slice none 0 0), (.slice Ad nd cd)] rfl rfl (by exact HNEW.out) (by intro u hu; simp at hu; rcases hu with rfl | rfl | rfl | rfl <;> rfl) (by omega) (by have := HML.out; unfold maxLen; omega) (by have := HML.out; omega) (by have := HSZ4.out; omega) _ rfl ?_; intro g4 cap4 W7 hown4 hgrow4 hat4 hlt4; have hcb5 : W7.heap[g + 1]? = some (.cells #[v] 27 (0, 0)) := (hgrow4.block (g + 1) (by have := HSZ4.out; omega) (fun e => by have := (HROX.out _ e.symm).1; omega)).trans ((HBA4.out.block (g + 1) (by omega)).trans HCB6.out); have s0 : W7.cell? ⟨g + 1, 0, none⟩ = some v := cell_of_row _ _ 0 _ _ (0, 0) hcb5; have sf : W7.frozen? ⟨g + 1, 0, none⟩ = false := by simp [World.frozen?, hcb5])
                have hgB : (W6.alloc (.cells #[.bool true, .int .i64 (nd : Int), (.slice none 0 0), (.slice Ad nd cd)] 75)).grownBy W7 v.ownBlock := ⟨hgrow4.os, hgrow4.tape, hgrow4.output, hgrow4.size, hgrow4.block⟩
                have hrow5 := GRow.append (Q := fun b => (P b ∧ b < g) ∨ g + 2 ≤ b) (m := (true, .mk (nd : Int) [] ds)) (WA := W6.alloc (.cells #[.bool true, .int .i64 (nd : Int), (.slice none 0 0), (.slice Ad nd cd)] 75)) (fun k m hm => by
                    obtain ⟨z0, z1, z2, e0, e1, e2, e3, e4⟩ := HCL.out k m hm
                    exact ⟨z0, z1, z2, e0, e1, e2, e3, e4.below HBA4.out⟩) hcn (HT6.out.below HBA4.out) hown4 hgB hat4
                have HROW5 := Lib.hid (hrow5.keep (W' := W7.setCell ⟨g + 1, 0, none⟩ (.slice (some ⟨g4, 0, none⟩) (ms.length + 1) cap4)) (fun q hq _ => Below.heap_setCell _ _ _ _ (by show q ≠ g + 1; rcases hq with (hq | hq) | hq <;> omega)))
                have hset5 : (W7.setCell ⟨g + 1, 0, none⟩ (.slice (some ⟨g4, 0, none⟩) (ms.length + 1) cap4)).heap[g + 1]? = some (.cells #[.slice (some ⟨g4, 0, none⟩) (ms.length + 1) cap4] 27 (0, 0)) := by
                  simp [World.setCell, Array.getElem?_modify, hcb5]
                have HSET5 := Lib.hid hset5
                have HGR5 := Lib.hid (grown_at (gown (grown_trans HG6.out (grown_below HBA4.out)) hgB (fun q hq => by have := (HROX.out q hq).1; omega)) 0 (.slice (some ⟨g4, 0, none⟩) (ms.length + 1) cap4))
                clear hown4 hgrow4 hat4 hlt4 hcb5 s0 sf hgB hrow5 hset5
                go_roundw
                case rel => exact ⟨k + 1, _, _, by omega, by go_num, HROW5, HSET5, HMK, HGR5⟩
                case measure => simp [intOf]; omega
    · obtain rfl : k = n := by omega
      have hvs : ∃ A c, v = .slice A ms.length c := (hRow.out.mems (P := fun _ => True) (fun _ _ => trivial)).slice
      obtain ⟨Av, cv, rfl⟩ := hvs
      have HOKJ := Lib.hid (HJ.out.ok HN.out)
      obtain ⟨nv, hnv⟩ : ∃ nv, ms.length = nv := ⟨_, rfl⟩
      have HNV := Lib.hid hnv
      have HMS := Lib.hid (hRow.out.mems (P := fun _ => True) (fun _ _ => trivial))
      have HMG := Lib.hid (hRow.out.mems (P := fun b => (P b ∨ w.heap.size ≤ b) ∧ b ≠ g) (fun b hb => by
        have hG := HG.out
        rcases hb with (hb | hb) | hb
        · exact ⟨.inl hb.1, by omega⟩
        · exact ⟨.inr (by omega), by omega⟩
        · exact ⟨.inr (by omega), by omega⟩))
      rw [hnv] at HMS hOut HMG
      have hnvk : nv = k := by rw [← hnv, HJ.out.1]
      clear hnv hRow
      subst hnvk
      have c2 : wr.cell? ⟨g + 1, 0, none⟩ = some (.slice Av nv cv) := cell_of_row _ _ 0 _ _ (0, 0) hOut.out
      have hres : wr.heap[g]? = some (.cells #[.slice none 0 0] 27 (0, 0)) := (hGr.out.block g (by omega) (by simp)).trans K0.out
      have HRES := Lib.hid hres
      have hgl : g < wr.heap.size := by omega
      have hgl1 : g + 1 < wr.heap.size := by omega
      have HBW := Lib.hid (show Below w.heap.size w wr by
        have h1 := HB.out
        rw [← HG.out] at h1
        exact h1.grown hGr.out h1.size (fun q hq => by obtain rfl := Option.some.inj hq; have := HG.out; omega))
      clear hres hGr
      go_wp2_with fail
      refine (D3.rcvalid_run _ ms _ _ (by rw [HNV.out]; omega) HMS.out HOKJ.out).mono ?_
      rintro e Wc ⟨rfl, hbc⟩
      have c3 := (hbc.cell (cell_lt c2)).trans c2
      have hrc := (hbc.block g hgl).trans HRES.out
      have z0 : Wc.cell? ⟨g, 0, none⟩ = some (.slice none 0 0) := cell_of_row _ _ 0 _ _ (0, 0) hrc
      have zf : Wc.frozen? ⟨g, 0, none⟩ = false := by simp [World.frozen?, hrc]
      have hset : (Wc.setCell ⟨g, 0, none⟩ (.slice Av nv cv)).heap[g]? = some (.cells #[.slice Av nv cv] 27 (0, 0)) := by
        simp [World.setCell, Array.getElem?_modify, hrc]
      have Q0 := Lib.hid (show (Wc.setCell ⟨g, 0, none⟩ (.slice Av nv cv)).cell? ⟨g, 0, none⟩ = some (.slice Av nv cv) from cell_of_row _ _ 0 _ _ (0, 0) hset)
      have HF := Lib.hid (show MemsAt (fun b => P b ∨ w.heap.size ≤ b) 3 (Wc.setCell ⟨g, 0, none⟩ (.slice Av nv cv)) (.slice Av nv cv) ms ∧ JoinL all nv tss nv ms ∧ Below w.heap.size w (Wc.setCell ⟨g, 0, none⟩ (.slice Av nv cv)) from
        ⟨((HMG.out.below hbc).both (Q := fun b => P b ∨ w.heap.size ≤ b) (fun q hq hP => Below.heap_setCell _ _ _ q hP.2) (fun _ _ h => h.1)), HJ.out, bset (bstep HBW.out hbc) (p := ⟨g, 0, none⟩) (by have := HG.out; show w.heap.size ≤ g; omega) _⟩)
      clear hset hrc hbc c2
      go_wp2_with fail
      have q0 := Q0.out
      refine bodyPost_ret (v := .tuple #[.agg #[.slice Av nv cv], .int .i64 0]) ?_ rfl ⟨_, ms, rfl, HF.out⟩
      simp [results, Tryz.results85, go_sem, q0]

end Go.Proofs.YtacpfcckilnbfaaGreat

namespace Go.Proofs.YtacpfcckilnbfaaGreat
set_option linter.unusedVariables false
set_option linter.unusedSimpArgs false
open Go.RowKit

structure NearW (P : Nat → Prop) (w : World) (sb g : Nat) (t : Int) (v1 v2 : Value) (T : Tree) (W : World) : Prop where
  box : W.heap[g]? = some (.cells #[.int .i64 t, v1, v2] 73 (0, 0))
  res : W.heap[g + 1]? = some (.cells #[.int .i64 0, .slice none 0 0, .slice none 0 0] 73 (0, 0))
  tat : TAt (fun b => P b ∧ b < g) 2 W (.int .i64 t) v1 v2 T
  tape : TapeOk W sb
  gr : w.grownBy W (some sb)

theorem NearW.grow {P : Nat → Prop} {w W W' : World} {sb g : Nat} {t : Int} {v1 v2 : Value} {T : Tree} (h : NearW P w sb g t v1 v2 T W) (hP : ∀ b, P b → b ≠ sb) (hg : sb < g) (hs : TapeOk W' sb) (hr : W.grownBy W' (some sb)) : NearW P w sb g t v1 v2 T W' :=
  ⟨(hr.block _ (Array.getElem?_eq_some_iff.1 h.box).1 (by simp; omega)).trans h.box, (hr.block _ (Array.getElem?_eq_some_iff.1 h.res).1 (by simp; omega)).trans h.res, h.tat.keep (fun k hk hp => hr.block k hk (by simp; exact fun e => hP k hp.1 e)), hs, grown_trans h.gr hr⟩

theorem set3_row {W : World} {r : Nat} {a0 a1 a2 : Value} {t : TypeId} (u0 u1 u2 : Value) (h : W.heap[r]? = some (.cells #[a0, a1, a2] t (0, 0))) : (((W.setCell ⟨r, 0, none⟩ u0).setCell ⟨r, 1, none⟩ u1).setCell ⟨r, 2, none⟩ u2).heap[r]? = some (.cells #[u0, u1, u2] t (0, 0)) := by
  simp [World.setCell, Array.getElem?_modify, h]

theorem set3_far {W : World} {r q : Nat} (u0 u1 u2 : Value) (h : q ≠ r) : (((W.setCell ⟨r, 0, none⟩ u0).setCell ⟨r, 1, none⟩ u1).setCell ⟨r, 2, none⟩ u2).heap[q]? = W.heap[q]? :=
  (Below.heap_setCell _ _ _ q h).trans ((Below.heap_setCell _ _ _ q h).trans (Below.heap_setCell _ _ _ q h))

theorem TAt.thr_set {P : Nat → Prop} {d : Nat} {w : World} {t t' : Int} {v1 v2 : Value} {thr : Int} {ns : List Int} {is : List Tree} (h : TAt P (d + 1) w (.int .i64 t) v1 v2 (.mk thr ns is)) : TAt P (d + 1) w (.int .i64 t') v1 v2 (.mk t' ns is) := by
  obtain ⟨_, h1, h2, h3, h4⟩ := h
  exact ⟨rfl, h1, h2, h3, h4⟩

theorem WF.thr_set {n : Int} {d : Nat} {thr t' : Int} {ns : List Int} {is : List Tree} (h : WF n (d + 1) (.mk thr ns is)) (h1 : 1 ≤ t') (h2 : t' ≤ ((ns.length + is.length : Nat) : Int)) : WF n (d + 1) (.mk t' ns is) := by
  obtain ⟨_, _, h3, h4, h5, h6, h7⟩ := h
  exact ⟨h1, h2, h3, h4, h5, h6, h7⟩

set_option maxRecDepth 100000 in
set_option maxHeartbeats 8000000 in
theorem near_run (P : Nat → Prop) (sb n : Nat) (hn : 1 ≤ n) (hn1 : n ≤ 10) (T : Tree) (v0 v1 v2 : Value) (w : World) (hs : TapeOk w sb) (hP : ∀ b, P b → b ≠ sb) (h : TAt P 2 w v0 v1 v2 T) (hW : WF n 2 T) :
    Calls Tryz.prog 43 #[.pointer (some ⟨sb, 0, none⟩), .agg #[v0, v1, v2], .int .i64 (n : Int)] w fun e w' => ∃ (y0 y1 y2 : Value) (U : Tree), e = .returned (.agg #[y0, y1, y2]) ∧ TAt (fun b => P b ∨ w.heap.size ≤ b) 2 w' y0 y1 y2 U ∧ WF n 2 U ∧ TapeOk w' sb ∧ w.grownBy w' (some sb) := by
  obtain ⟨thr, ns, is⟩ := T
  obtain ⟨t, A1, n1, c1, A2, n2, c2, rfl, rfl, rfl⟩ := h.form
  obtain ⟨hth, _, _, hN, hL⟩ := h.parts
  have hthr : t = thr := by cases hth; rfl
  subst hthr
  obtain ⟨A', c', hA'⟩ := hN.slice
  obtain ⟨B', e', hB'⟩ := hL.slice
  have hn1e : n1 = ns.length := by cases hA'; rfl
  have hn2e : n2 = is.length := by cases hB'; rfl
  have hWb : 1 ≤ t ∧ t ≤ ((ns.length + is.length : Nat) : Int) ∧ ns.length ≤ 10 ∧ is.length ≤ 3 := ⟨hW.1, hW.2.1, hW.2.2.1, hW.2.2.2.1⟩
  have hsl := hs.lt
  have hb2 : Below w.heap.size w ((w.alloc (.cells #[.int .i64 t, .slice A1 n1 c1, .slice A2 n2 c2] 73)).alloc (.cells #[.int .i64 0, .slice none 0 0, .slice none 0 0] 73)) := balloc (balloc (bref w) _) _
  have HW0 := Lib.hid (show NearW P w sb w.heap.size t (.slice A1 n1 c1) (.slice A2 n2 c2) (.mk t ns is) ((w.alloc (.cells #[.int .i64 t, .slice A1 n1 c1, .slice A2 n2 c2] 73)).alloc (.cells #[.int .i64 0, .slice none 0 0, .slice none 0 0] 73)) from
    ⟨alloc_on (alloc_at rfl), alloc_at (alloc_sz _ _), (h.imp (Q := fun b => P b ∧ b < w.heap.size) (fun k hk hp => ⟨hp, hk⟩)).below hb2, (hs.alloc _).alloc _, grown_below hb2⟩)
  have HWF := Lib.hid hW
  have HPS := Lib.hid hP
  have HNE := Lib.hid (And.intro hn1e hn2e)
  rw [← hn1e, ← hn2e] at hWb
  obtain ⟨hw1, hw2, hw3, hw4⟩ := hWb
  clear h hs hP hN hL hth hA' hB' hn1e hn2e hb2 hW
  go_enter Tryz.func43, Tryz.ntmps43
  go_upto_region 1 with fail
  generalize ((w.alloc (.cells #[.int .i64 t, .slice A1 n1 c1, .slice A2 n2 c2] 73)).alloc (.cells #[.int .i64 0, .slice none 0 0, .slice none 0 0] 73)) = W1 at *
  generalize hg : w.heap.size = g at *
  have HG := Lib.hid hg
  clear hg
  go_wp2_with fail
  refine (TN_run _ sb _ (by omega) (by omega) HW0.out.tape).mono ?_
  rintro e W2 ⟨r, hr0, hr1, rfl, hs2, hg2⟩
  have HW2 := Lib.hid (HW0.out.grow HPS.out hsl hs2 hg2)
  clear hs2 hg2 HW0
  have b0 : W2.cell? ⟨g, 0, none⟩ = some (.int .i64 t) := cell_of_row _ _ 0 _ _ (0, 0) HW2.out.box
  have b1 : W2.cell? ⟨g, 1, none⟩ = some (.slice A1 n1 c1) := cell_of_row _ _ 1 _ _ (0, 0) HW2.out.box
  have b2 : W2.cell? ⟨g, 2, none⟩ = some (.slice A2 n2 c2) := cell_of_row _ _ 2 _ _ (0, 0) HW2.out.box
  have bf : W2.frozen? ⟨g, 0, none⟩ = false := by simp [World.frozen?, HW2.out.box]
  have z0 : W2.cell? ⟨g + 1, 0, none⟩ = some (.int .i64 0) := cell_of_row _ _ 0 _ _ (0, 0) HW2.out.res
  have z1 : W2.cell? ⟨g + 1, 1, none⟩ = some (.slice none 0 0) := cell_of_row _ _ 1 _ _ (0, 0) HW2.out.res
  have z2 : W2.cell? ⟨g + 1, 2, none⟩ = some (.slice none 0 0) := cell_of_row _ _ 2 _ _ (0, 0) HW2.out.res
  have zf : ∀ j, W2.frozen? ⟨g + 1, j, none⟩ = false := fun j => by simp [World.frozen?, HW2.out.res]
  have zf0 := zf 0
  have zf1 := zf 1
  have zf2 := zf 2
  clear zf
  have hgl1 : g + 1 < W2.heap.size := cell_lt z0
  -- what is left of a case in which the threshold is set to x
  have FIN : Hid (∀ x : Int, 1 ≤ x → x ≤ ((n1 + n2 : Nat) : Int) → ((((W2.setCell ⟨g, 0, none⟩ (.int .i64 x)).setCell ⟨g + 1, 0, none⟩ (.int .i64 x)).setCell ⟨g + 1, 1, none⟩ (.slice A1 n1 c1)).setCell ⟨g + 1, 2, none⟩ (.slice A2 n2 c2)).cell? ⟨g + 1, 0, none⟩ = some (.int .i64 x) ∧ ((((W2.setCell ⟨g, 0, none⟩ (.int .i64 x)).setCell ⟨g + 1, 0, none⟩ (.int .i64 x)).setCell ⟨g + 1, 1, none⟩ (.slice A1 n1 c1)).setCell ⟨g + 1, 2, none⟩ (.slice A2 n2 c2)).cell? ⟨g + 1, 1, none⟩ = some (.slice A1 n1 c1) ∧ ((((W2.setCell ⟨g, 0, none⟩ (.int .i64 x)).setCell ⟨g + 1, 0, none⟩ (.int .i64 x)).setCell ⟨g + 1, 1, none⟩ (.slice A1 n1 c1)).setCell ⟨g + 1, 2, none⟩ (.slice A2 n2 c2)).cell? ⟨g + 1, 2, none⟩ = some (.slice A2 n2 c2) ∧ ∃ (y0 y1 y2 : Value) (U : Tree), Ending.returned (.agg #[.int .i64 x, .slice A1 n1 c1, .slice A2 n2 c2]) = .returned (.agg #[y0, y1, y2]) ∧ TAt (fun b => P b ∨ w.heap.size ≤ b) 2 ((((W2.setCell ⟨g, 0, none⟩ (.int .i64 x)).setCell ⟨g + 1, 0, none⟩ (.int .i64 x)).setCell ⟨g + 1, 1, none⟩ (.slice A1 n1 c1)).setCell ⟨g + 1, 2, none⟩ (.slice A2 n2 c2)) y0 y1 y2 U ∧ WF n 2 U ∧ TapeOk ((((W2.setCell ⟨g, 0, none⟩ (.int .i64 x)).setCell ⟨g + 1, 0, none⟩ (.int .i64 x)).setCell ⟨g + 1, 1, none⟩ (.slice A1 n1 c1)).setCell ⟨g + 1, 2, none⟩ (.slice A2 n2 c2)) sb ∧ w.grownBy ((((W2.setCell ⟨g, 0, none⟩ (.int .i64 x)).setCell ⟨g + 1, 0, none⟩ (.int .i64 x)).setCell ⟨g + 1, 1, none⟩ (.slice A1 n1 c1)).setCell ⟨g + 1, 2, none⟩ (.slice A2 n2 c2)) (some sb)) := Lib.hid (fun x h1 h2 => by
    have hn := HNE.out
    have hrow := set3_row (.int .i64 x) (.slice A1 n1 c1) (.slice A2 n2 c2) ((Below.heap_setCell W2 ⟨g, 0, none⟩ (.int .i64 x) (g + 1) (by show g + 1 ≠ g; omega)).trans HW2.out.res)
    refine ⟨cell_of_row _ _ 0 _ _ (0, 0) hrow, cell_of_row _ _ 1 _ _ (0, 0) hrow, cell_of_row _ _ 2 _ _ (0, 0) hrow, _, _, _, .mk x ns is, rfl, ?_, HWF.out.thr_set h1 (by omega), ?_, ?_⟩
    · refine TAt.both (w := W2) (fun q hq hP => ?_) (fun q _ hP => .inl hP.1) _ _ _ _ _ (HW2.out.tat.thr_set (t' := x))
      exact (set3_far _ _ _ (by omega)).trans (Below.heap_setCell _ _ _ q (by show q ≠ g; omega))
    · exact (((HW2.out.tape.setCell (p := ⟨g, 0, none⟩) (by omega) _).setCell (p := ⟨g + 1, 0, none⟩) (by show sb < g + 1; omega) _).setCell (p := ⟨g + 1, 1, none⟩) (by show sb < g + 1; omega) _).setCell (p := ⟨g + 1, 2, none⟩) (by show sb < g + 1; omega) _
    · have hG := HG.out
      exact gset (gset (gset (gset HW2.out.gr (p := ⟨g, 0, none⟩) (by show w.heap.size ≤ g; omega) _) (p := ⟨g + 1, 0, none⟩) (by show w.heap.size ≤ g + 1; omega) _) (p := ⟨g + 1, 1, none⟩) (by show w.heap.size ≤ g + 1; omega) _) (p := ⟨g + 1, 2, none⟩) (by show w.heap.size ≤ g + 1; omega) _)
  have hr3 : r = 0 ∨ r = 1 ∨ r = 2 := by omega
  rcases hr3 with rfl | rfl | rfl
  · by_cases hmin : ((n1 : Int) + (n2 : Int)) ≤ t + 1
    · skip
      have HF := Lib.hid (FIN.out ((n1 : Int) + (n2 : Int)) (by omega) (by omega))
      go_wp2_with fail
      obtain ⟨q0, q1, q2, HR⟩ := HF.out
      refine bodyPost_ret (v := .agg #[.int .i64 ((n1 : Int) + (n2 : Int)), .slice A1 n1 c1, .slice A2 n2 c2]) ?_ rfl (by obtain ⟨y0, y1, y2, U, h1, h2⟩ := HR; first | exact ⟨y0, y1, y2, U, h1, h2⟩ | exact ⟨y0, y1, y2, h1, U, h2⟩)
      simp [results, Tryz.results43, go_sem, q0, q1, q2]
    · skip
      have HF := Lib.hid (FIN.out (t + 1) (by omega) (by omega))
      go_wp2_with fail
      obtain ⟨q0, q1, q2, HR⟩ := HF.out
      refine bodyPost_ret (v := .agg #[.int .i64 (t + 1), .slice A1 n1 c1, .slice A2 n2 c2]) ?_ rfl (by obtain ⟨y0, y1, y2, U, h1, h2⟩ := HR; first | exact ⟨y0, y1, y2, U, h1, h2⟩ | exact ⟨y0, y1, y2, h1, U, h2⟩)
      simp [results, Tryz.results43, go_sem, q0, q1, q2]
  · by_cases hmin : ¬ t - 1 ≤ 1
    · skip
      have HF := Lib.hid (FIN.out (t - 1) (by omega) (by omega))
      go_wp2_with fail
      obtain ⟨q0, q1, q2, HR⟩ := HF.out
      refine bodyPost_ret (v := .agg #[.int .i64 (t - 1), .slice A1 n1 c1, .slice A2 n2 c2]) ?_ rfl (by obtain ⟨y0, y1, y2, U, h1, h2⟩ := HR; first | exact ⟨y0, y1, y2, U, h1, h2⟩ | exact ⟨y0, y1, y2, h1, U, h2⟩)
      simp [results, Tryz.results43, go_sem, q0, q1, q2]
    · skip
      have HF := Lib.hid (FIN.out (1) (by omega) (by omega))
      go_wp2_with fail
      obtain ⟨q0, q1, q2, HR⟩ := HF.out
      refine bodyPost_ret (v := .agg #[.int .i64 (1), .slice A1 n1 c1, .slice A2 n2 c2]) ?_ rfl (by obtain ⟨y0, y1, y2, U, h1, h2⟩ := HR; first | exact ⟨y0, y1, y2, U, h1, h2⟩ | exact ⟨y0, y1, y2, h1, U, h2⟩)
      simp [results, Tryz.results43, go_sem, q0, q1, q2]
  · go_wp2_with fail
    refine (mkTrust_run sb n hn hn1 1 (by omega) _ HW2.out.tape).mono ?_
    rintro e W5 ⟨y0, y1, y2, U, rfl, hT5, hf5, hs5, hg5⟩
    obtain ⟨t', A', n', c', B', m', e', rfl, rfl, rfl⟩ := hT5.form
    have hres5 := (hg5.block (g + 1) hgl1 (by simp; omega)).trans HW2.out.res
    have y0 : W5.cell? ⟨g + 1, 0, none⟩ = some (.int .i64 0) := cell_of_row _ _ 0 _ _ (0, 0) hres5
    have y1 : W5.cell? ⟨g + 1, 1, none⟩ = some (.slice none 0 0) := cell_of_row _ _ 1 _ _ (0, 0) hres5
    have y2 : W5.cell? ⟨g + 1, 2, none⟩ = some (.slice none 0 0) := cell_of_row _ _ 2 _ _ (0, 0) hres5
    have yf : ∀ j, W5.frozen? ⟨g + 1, j, none⟩ = false := fun j => by simp [World.frozen?, hres5]
    have yf0 := yf 0
    have yf1 := yf 1
    have yf2 := yf 2
    have hrow := set3_row (.int .i64 t') (.slice A' n' c') (.slice B' m' e') hres5
    have HQ := Lib.hid (show (((W5.setCell ⟨g + 1, 0, none⟩ (.int .i64 t')).setCell ⟨g + 1, 1, none⟩ (.slice A' n' c')).setCell ⟨g + 1, 2, none⟩ (.slice B' m' e')).cell? ⟨g + 1, 0, none⟩ = some (.int .i64 t') ∧ (((W5.setCell ⟨g + 1, 0, none⟩ (.int .i64 t')).setCell ⟨g + 1, 1, none⟩ (.slice A' n' c')).setCell ⟨g + 1, 2, none⟩ (.slice B' m' e')).cell? ⟨g + 1, 1, none⟩ = some (.slice A' n' c') ∧ (((W5.setCell ⟨g + 1, 0, none⟩ (.int .i64 t')).setCell ⟨g + 1, 1, none⟩ (.slice A' n' c')).setCell ⟨g + 1, 2, none⟩ (.slice B' m' e')).cell? ⟨g + 1, 2, none⟩ = some (.slice B' m' e') from
      ⟨cell_of_row _ _ 0 _ _ (0, 0) hrow, cell_of_row _ _ 1 _ _ (0, 0) hrow, cell_of_row _ _ 2 _ _ (0, 0) hrow⟩)
    have HF := Lib.hid (show TAt (fun b => P b ∨ w.heap.size ≤ b) 2 (((W5.setCell ⟨g + 1, 0, none⟩ (.int .i64 t')).setCell ⟨g + 1, 1, none⟩ (.slice A' n' c')).setCell ⟨g + 1, 2, none⟩ (.slice B' m' e')) (.int .i64 t') (.slice A' n' c') (.slice B' m' e') U ∧ WF n 2 U ∧ TapeOk (((W5.setCell ⟨g + 1, 0, none⟩ (.int .i64 t')).setCell ⟨g + 1, 1, none⟩ (.slice A' n' c')).setCell ⟨g + 1, 2, none⟩ (.slice B' m' e')) sb ∧ w.grownBy (((W5.setCell ⟨g + 1, 0, none⟩ (.int .i64 t')).setCell ⟨g + 1, 1, none⟩ (.slice A' n' c')).setCell ⟨g + 1, 2, none⟩ (.slice B' m' e')) (some sb) from
      ⟨TAt.both (w := W5) (fun q hq hP => set3_far _ _ _ (by omega)) (fun q _ hP => .inr (by have := HG.out; omega)) _ _ _ _ _ hT5, hf5.1, ((hs5.setCell (p := ⟨g + 1, 0, none⟩) (by show sb < g + 1; omega) _).setCell (p := ⟨g + 1, 1, none⟩) (by show sb < g + 1; omega) _).setCell (p := ⟨g + 1, 2, none⟩) (by show sb < g + 1; omega) _,
        gset (gset (gset (grown_trans HW2.out.gr hg5) (p := ⟨g + 1, 0, none⟩) (by have := HG.out; show w.heap.size ≤ g + 1; omega) _) (p := ⟨g + 1, 1, none⟩) (by have := HG.out; show w.heap.size ≤ g + 1; omega) _) (p := ⟨g + 1, 2, none⟩) (by have := HG.out; show w.heap.size ≤ g + 1; omega) _⟩)
    clear hT5 hf5 hs5 hg5 hres5 yf hrow b0 b1 b2 bf z0 z1 z2 zf0 zf1 zf2 FIN
    go_wp2_with fail
    obtain ⟨q0, q1, q2⟩ := HQ.out
    refine bodyPost_ret (v := .agg #[.int .i64 t', .slice A' n' c', .slice B' m' e']) ?_ rfl ⟨_, _, _, U, rfl, HF.out⟩
    simp [results, Tryz.results43, go_sem, q0, q1, q2]

end Go.Proofs.YtacpfcckilnbfaaGreat

namespace Go.Proofs.YtacpfcckilnbfaaGreat
set_option linter.unusedVariables false
set_option linter.unusedSimpArgs false
open Go.RowKit

/-- A pair of configurations: as many members, the same ones declared, and what satisfies a trust of High satisfies that of Low. -/
structure PairM (ls hs : List Mem) : Prop where
  len : hs.length = ls.length
  one : 1 ≤ ls.length
  okl : D3.MemsOk ls.length ls
  okh : D3.MemsOk hs.length hs
  dec : ∀ (k : Nat) (l h : Mem), ls[k]? = some l → hs[k]? = some h → h.1 = l.1
  imp : ∀ (k : Nat) (l h : Mem), ls[k]? = some l → hs[k]? = some h → l.1 = true → ∀ p, holdsT 3 p h.2 = true → holdsT 3 p l.2 = true

theorem PairM.same {ms : List Mem} (h1 : 1 ≤ ms.length) (h : D3.MemsOk ms.length ms) : PairM ms ms :=
  ⟨rfl, h1, h, h, fun k l x e1 e2 => by rw [e1] at e2; cases e2; rfl, fun k l x e1 e2 _ p hp => by rw [e1] at e2; cases e2; exact hp⟩

theorem PairM.joined {n : Nat} {tss : List (List Tree)} {ls hs : List Mem} (h1 : 1 ≤ n) (hn : tss.length = n) (hl : JoinL false (n : Int) tss n ls) (hh : JoinL true (n : Int) tss n hs) : PairM ls hs := by
  refine ⟨by rw [hl.1, hh.1], by rw [hl.1]; exact h1, hl.ok hn, hh.ok hn, fun k l h e1 e2 => ?_, fun k l h e1 e2 hd p hp => ?_⟩
  · have hk : k < tss.length := by have := (List.getElem?_eq_some_iff.1 e1).1; have := hl.1; omega
    have a := hl.2 k _ l (List.getElem?_eq_getElem hk) e1
    have b := hh.2 k _ h (List.getElem?_eq_getElem hk) e2
    by_cases h0 : tss[k] = []
    · rw [a.1 h0, b.1 h0]
    · rw [(a.2 h0).1, (b.2 h0).1]
  · have hk : k < tss.length := by have := (List.getElem?_eq_some_iff.1 e1).1; have := hl.1; omega
    have a := hl.2 k _ l (List.getElem?_eq_getElem hk) e1
    have b := hh.2 k _ h (List.getElem?_eq_getElem hk) e2
    by_cases h0 : tss[k] = []
    · rw [a.1 h0] at hd; cases hd
    · obtain ⟨_, _, ds, hne, hm, he⟩ := a.2 h0
      obtain ⟨_, _, ds', hne', hm', he'⟩ := b.2 h0
      rw [he' p, if_pos rfl, List.all_eq_true] at hp
      rw [he p, if_neg (by simp), List.any_eq_true]
      obtain ⟨d, hd⟩ := List.exists_mem_of_ne_nil ds hne
      exact ⟨d, hd, hp d ((hm' d).2 ((hm d).1 hd))⟩

/-- A row of lists of trusts of its own. -/
def LRow (Q : Nat → Prop) (B : Nat) (W : World) (v : Value) (tss : List (List Tree)) : Prop :=
  ∃ us : List Value, W.ownsRow B 71 1 v tss.length us ∧ ∀ (k : Nat) (u : Value) (ts : List Tree), us[k]? = some u → tss[k]? = some ts → ListT (fun b => Q b ∧ v.ownBlock ≠ some b) 2 W u ts

theorem LRow.nil (Q : Nat → Prop) (B : Nat) (W : World) : LRow Q B W (.slice none 0 0) [] := ⟨[], World.ownsRow_nil _ _ _ _, fun k u ts h => by cases h⟩

theorem LRow.own {Q : Nat → Prop} {B : Nat} {W : World} {v : Value} {tss : List (List Tree)} (h : LRow Q B W v tss) : ∀ j, v.ownBlock = some j → B ≤ j ∧ j < W.heap.size := by
  obtain ⟨cs, h1, _⟩ := h
  exact h1.lt

theorem LRow.keep {Q : Nat → Prop} {B : Nat} {W W' : World} {v : Value} {tss : List (List Tree)} (h : LRow Q B W v tss) (hk : ∀ q, (Q q ∨ B ≤ q) → q < W.heap.size → W'.heap[q]? = W.heap[q]?) : LRow Q B W' v tss := by
  obtain ⟨cs, h1, h2⟩ := h
  exact ⟨cs, own_keepG h1 (fun j _ hB hl => hk j (.inr hB) hl), fun k u ts e1 e2 => (h2 k u ts e1 e2).both (fun q hq hP => hk q (.inl hP.1) hq) (fun _ _ h => h)⟩

theorem LRow.list {Q : Nat → Prop} {B : Nat} {W : World} {v : Value} {tss : List (List Tree)} {P : Nat → Prop} (h : LRow Q B W v tss) (hP : ∀ b, (Q b ∨ B ≤ b) → P b) : LLAt P W v tss := by
  obtain ⟨us, h1, h2⟩ := h
  have hl : us.length = tss.length := by have := h1.1; omega
  rcases h1.2 with ⟨hv, h0⟩ | ⟨g, cap, cur, hv, hb, _⟩
  · exact ⟨none, 0, by rw [hv, h0], fun k T hT => by have := (List.getElem?_eq_some_iff.1 hT).1; omega⟩
  · refine ⟨some ⟨g, 0, none⟩, cap, hv, fun k ts hT => ?_⟩
    obtain ⟨u, hu⟩ : ∃ u, us[k]? = some u := ⟨_, List.getElem?_eq_getElem (by rw [hl]; exact (List.getElem?_eq_some_iff.1 hT).1)⟩
    have := h1.cells (g := g) (by rw [hv]; rfl) k u hu
    rw [Addr.add_lit] at this
    exact ⟨g, 0, u, rfl, hP g (.inr hb), this, (h2 k u ts hu hT).both (fun _ _ _ => rfl) (fun b _ h => hP b (.inl h.1))⟩

theorem LRow.append {Q : Nat → Prop} {B : Nat} {WA W4 : World} {lv u : Value} {tss : List (List Tree)} {ts : List Tree} {g4 cap4 : Nat} {us : List Value}
    (hcl : ∀ (k : Nat) (u : Value) (ts : List Tree), us[k]? = some u → tss[k]? = some ts → ListT (fun b => Q b ∧ lv.ownBlock ≠ some b) 2 WA u ts) (hcn : us.length = tss.length)
    (hT : ListT (fun b => Q b ∧ lv.ownBlock ≠ some b) 2 WA u ts)
    (hown4 : W4.ownsRow B 71 1 (.slice (some ⟨g4, 0, none⟩) (tss.length + 1) cap4) (tss.length + 1) (us ++ [u])) (hg4 : WA.grownBy W4 lv.ownBlock) (hat4 : lv.ownBlock = some g4 ∨ g4 = WA.heap.size) :
    LRow Q B W4 (.slice (some ⟨g4, 0, none⟩) (tss.length + 1) cap4) (tss ++ [ts]) := by
  have up : ∀ {y : Value} {S : List Tree}, ListT (fun b => Q b ∧ lv.ownBlock ≠ some b) 2 WA y S → ListT (fun b => Q b ∧ (Value.slice (some ⟨g4, 0, none⟩) (tss.length + 1) cap4).ownBlock ≠ some b) 2 W4 y S := fun h =>
    h.both (fun q hq hP => hg4.block q hq (fun e => hP.2 e.symm)) (fun q hq hP => ⟨hP.1, fun e => by
      have e' : g4 = q := by simpa [Value.ownBlock] using e
      rcases hat4 with hat | hat
      · exact hP.2 (by rw [hat, e'])
      · omega⟩)
  refine ⟨us ++ [u], by simpa using hown4, fun k y S e1 e2 => ?_⟩
  rcases Nat.lt_or_ge k tss.length with hk | hk
  · rw [List.getElem?_append_left (by omega)] at e1
    rw [List.getElem?_append_left hk] at e2
    exact up (hcl k y S e1 e2)
  · have hk2 : k = tss.length := by
      have := (List.getElem?_eq_some_iff.1 e2).1
      simp at this; omega
    subst hk2
    have e2' : S = ts := by simpa using e2.symm
    rw [List.getElem?_append_right (by omega), hcn, Nat.sub_self] at e1
    have e1' : u = y := by simpa using e1
    subst e2'; subst e1'
    exact up hT

/-- A row of trusts of its own from B on, with what they refer to in blocks of Q and not in the row. -/
def GT (Q : Nat → Prop) (B d : Nat) (W : World) (v : Value) (ts : List Tree) : Prop :=
  ∃ cs : List Value, W.ownsRow B 73 3 v ts.length cs ∧ ∀ (k : Nat) (T : Tree), ts[k]? = some T → ∃ x0 x1 x2, cs[k * 3]? = some x0 ∧ cs[k * 3 + 1]? = some x1 ∧ cs[k * 3 + 2]? = some x2 ∧ TAt (fun b => Q b ∧ v.ownBlock ≠ some b) d W x0 x1 x2 T

theorem GT.nil (Q : Nat → Prop) (B d : Nat) (W : World) : GT Q B d W (.slice none 0 0) [] := ⟨[], World.ownsRow_nil _ _ _ _, fun k T h => by simp at h⟩

theorem GT.own {Q : Nat → Prop} {B d : Nat} {W : World} {v : Value} {ts : List Tree} (h : GT Q B d W v ts) : ∀ j, v.ownBlock = some j → B ≤ j ∧ j < W.heap.size := by
  obtain ⟨cs, h1, _⟩ := h
  exact h1.lt

theorem GT.keep {Q : Nat → Prop} {B d : Nat} {W W' : World} {v : Value} {ts : List Tree} (h : GT Q B d W v ts) (hk : ∀ q, (Q q ∨ B ≤ q) → q < W.heap.size → W'.heap[q]? = W.heap[q]?) : GT Q B d W' v ts := by
  obtain ⟨cs, h1, h2⟩ := h
  refine ⟨cs, own_keepG h1 (fun j _ hB hl => hk j (.inr hB) hl), fun k T hT => ?_⟩
  obtain ⟨x0, x1, x2, e0, e1, e2, e3⟩ := h2 k T hT
  exact ⟨x0, x1, x2, e0, e1, e2, e3.keep (fun q hq hP => hk q (.inl hP.1) hq)⟩

theorem GT.append {Q : Nat → Prop} {B d : Nat} {WA W4 : World} {lv x0 x1 x2 : Value} {ts : List Tree} {T : Tree} {g4 cap4 : Nat} {cs : List Value}
    (hcl : ∀ (k : Nat) (T : Tree), ts[k]? = some T → ∃ x0 x1 x2, cs[k * 3]? = some x0 ∧ cs[k * 3 + 1]? = some x1 ∧ cs[k * 3 + 2]? = some x2 ∧ TAt (fun b => Q b ∧ lv.ownBlock ≠ some b) d WA x0 x1 x2 T) (hcn : cs.length = ts.length * 3)
    (hT : TAt (fun b => Q b ∧ lv.ownBlock ≠ some b) d WA x0 x1 x2 T)
    (hown4 : W4.ownsRow B 73 3 (.slice (some ⟨g4, 0, none⟩) (ts.length + 1) cap4) (ts.length + 1) (cs ++ [x0, x1, x2])) (hg4 : WA.grownBy W4 lv.ownBlock) (hat4 : lv.ownBlock = some g4 ∨ g4 = WA.heap.size) :
    GT Q B d W4 (.slice (some ⟨g4, 0, none⟩) (ts.length + 1) cap4) (ts ++ [T]) := by
  have up : ∀ {y0 y1 y2 : Value} {S : Tree}, TAt (fun b => Q b ∧ lv.ownBlock ≠ some b) d WA y0 y1 y2 S → TAt (fun b => Q b ∧ (Value.slice (some ⟨g4, 0, none⟩) (ts.length + 1) cap4).ownBlock ≠ some b) d W4 y0 y1 y2 S := fun h =>
    TAt.both (fun q hq hP => hg4.block q hq (fun e => hP.2 e.symm)) (fun q hq hP => ⟨hP.1, fun e => by
      have e' : g4 = q := by simpa [Value.ownBlock] using e
      rcases hat4 with hat | hat
      · exact hP.2 (by rw [hat, e'])
      · omega⟩) _ _ _ _ _ h
  refine ⟨cs ++ [x0, x1, x2], by simpa using hown4, fun k S hS => ?_⟩
  rcases Nat.lt_or_ge k ts.length with hk | hk
  · rw [List.getElem?_append_left hk] at hS
    obtain ⟨y0, y1, y2, e0, e1, e2, e3⟩ := hcl k S hS
    exact ⟨y0, y1, y2, by rw [List.getElem?_append_left (by omega)]; exact e0, by rw [List.getElem?_append_left (by omega)]; exact e1, by rw [List.getElem?_append_left (by omega)]; exact e2, up e3⟩
  · have hk2 : k = ts.length := by
      have := (List.getElem?_eq_some_iff.1 hS).1
      simp at this; omega
    subst hk2
    have hS' : S = T := by simpa using hS.symm
    subst hS'
    refine ⟨x0, x1, x2, ?_, ?_, ?_, up hT⟩
    · rw [List.getElem?_append_right (by omega)]; simp [hcn]
    · rw [List.getElem?_append_right (by omega), show ts.length * 3 + 1 - cs.length = 1 by omega]; rfl
    · rw [List.getElem?_append_right (by omega), show ts.length * 3 + 2 - cs.length = 2 by omega]; rfl

theorem GT.list {Q : Nat → Prop} {B d : Nat} {W : World} {v : Value} {ts : List Tree} {P : Nat → Prop} (h : GT Q B d W v ts) (hP : ∀ b, (Q b ∨ B ≤ b) → P b) : ListT P d W v ts := by
  obtain ⟨cs, h1, h2⟩ := h
  rcases h1.2 with ⟨hv, h0⟩ | ⟨g, cap, cur, hv, hb, _⟩
  · exact ⟨none, 0, by rw [hv, h0], fun k T hT => by have := (List.getElem?_eq_some_iff.1 hT).1; omega⟩
  · refine ⟨some ⟨g, 0, none⟩, cap, hv, fun k T hT => ?_⟩
    obtain ⟨x0, x1, x2, e0, e1, e2, e3⟩ := h2 k T hT
    have c : ∀ j u, cs[j]? = some u → W.cell? ⟨g, 0 + j, none⟩ = some u := fun j u hu => by
      have := h1.cells (g := g) (by rw [hv]; rfl) j u hu
      rwa [Addr.add_lit] at this
    exact ⟨g, 0, x0, x1, x2, rfl, hP g (.inr hb), c _ _ e0, by rw [Nat.add_assoc]; exact c _ _ e1, by rw [Nat.add_assoc]; exact c _ _ e2, e3.imp (fun q _ hq => hP q (.inl hq.1))⟩

set_option maxRecDepth 100000 in
set_option maxHeartbeats 1000000 in
theorem low_run (P : Nat → Prop) (tss : List (List Tree)) (n : Nat) (v0 : Value) (w : World) (hn : tss.length = n) (hn10 : n ≤ 10) (h3 : ∀ ts ∈ tss, ts.length ≤ 3) (hwf : ∀ ts ∈ tss, ∀ T ∈ ts, WF n 2 T) (h : LLAt P w v0 tss) :
    Calls Tryz.prog 44 #[v0] w fun e w' => ∃ v' ms, e = .returned (.tuple #[.agg #[v'], .int .i64 0]) ∧ MemsAt (fun b => P b ∨ w.heap.size ≤ b) 3 w' v' ms ∧ JoinL false n tss n ms ∧ Below w.heap.size w w' := by
  have hba := balloc (bref w) (.cells #[.slice none 0 0] 27)
  have HK := Lib.hid (show (w.alloc (.cells #[.slice none 0 0] 27)).heap[w.heap.size]? = some (.cells #[.slice none 0 0] 27 (0, 0)) from alloc_at rfl)
  have HSZ := Lib.hid (alloc_sz w (.cells #[.slice none 0 0] 27))
  have HJ := Lib.hid (joined_run (fun b => P b ∧ b < w.heap.size) tss false n v0 (w.alloc (.cells #[.slice none 0 0] 27)) hn hn10 h3 hwf (by
    obtain ⟨A, c, h1, h2⟩ := h
    refine ⟨A, c, h1, fun k ts ht => ?_⟩
    obtain ⟨b, off, u, e1, e2, e3, e4⟩ := h2 k ts ht
    exact ⟨b, off, u, e1, ⟨e2, cell_lt e3⟩, (hba.cell (cell_lt e3)).trans e3, (e4.both (Q := fun b => P b ∧ b < w.heap.size) (fun _ _ _ => rfl) (fun k hk hp => ⟨hp, hk⟩)).below hba⟩))
  have HB := Lib.hid hba
  obtain ⟨A, c, rfl, _⟩ := h
  clear hn hn10 h3 hwf hba
  go_enter Tryz.func44, Tryz.ntmps44
  go_upto_region 1 with fail
  generalize (w.alloc (.cells #[.slice none 0 0] 27)) = W1 at *
  generalize hg : w.heap.size = g at *
  have HG := Lib.hid hg
  clear hg
  go_wp2_with fail
  refine HJ.out.mono ?_
  rintro e Wc ⟨v', ms, rfl, h1, h2, hb⟩
  obtain ⟨Av, cv, rfl⟩ := h1.slice
  obtain ⟨nv, hnv⟩ : ∃ nv, ms.length = nv := ⟨_, rfl⟩
  rw [hnv] at h1 ⊢
  have hrc := (hb.block g (Array.getElem?_eq_some_iff.1 HK.out).1).trans HK.out
  have z0 : Wc.cell? ⟨g, 0, none⟩ = some (.slice none 0 0) := cell_of_row _ _ 0 _ _ (0, 0) hrc
  have zf : Wc.frozen? ⟨g, 0, none⟩ = false := by simp [World.frozen?, hrc]
  have hset : (Wc.setCell ⟨g, 0, none⟩ (.slice Av nv cv)).heap[g]? = some (.cells #[.slice Av nv cv] 27 (0, 0)) := by
    simp [World.setCell, Array.getElem?_modify, hrc]
  have Q0 := Lib.hid (show (Wc.setCell ⟨g, 0, none⟩ (.slice Av nv cv)).cell? ⟨g, 0, none⟩ = some (.slice Av nv cv) from cell_of_row _ _ 0 _ _ (0, 0) hset)
  have HF := Lib.hid (show MemsAt (fun b => P b ∨ w.heap.size ≤ b) 3 (Wc.setCell ⟨g, 0, none⟩ (.slice Av nv cv)) (.slice Av nv cv) ms ∧ JoinL false n tss n ms ∧ Below w.heap.size w (Wc.setCell ⟨g, 0, none⟩ (.slice Av nv cv)) from by
    have hG := HG.out
    have hS := HSZ.out
    have hB := HB.out
    refine ⟨h1.both (fun q hq hP => Below.heap_setCell _ _ _ q (by show q ≠ g; rcases hP with hP | hP <;> omega)) (fun q _ hP => ?_), h2, bset (bstep (by rw [hG]; exact hB) hb) (p := ⟨g, 0, none⟩) (by show w.heap.size ≤ g; omega) _⟩
    rcases hP with hP | hP
    · exact .inl hP.1
    · exact .inr (by omega))
  clear hset hrc hb h1 h2 hnv HJ
  go_wp2_with fail
  have q0 := Q0.out
  refine bodyPost_ret (v := .tuple #[.agg #[.slice Av nv cv], .int .i64 0]) ?_ rfl ⟨_, ms, rfl, HF.out⟩
  simp [results, Tryz.results44, go_sem, q0]

set_option maxRecDepth 100000 in
set_option maxHeartbeats 1000000 in
theorem high_run (P : Nat → Prop) (tss : List (List Tree)) (n : Nat) (v0 : Value) (w : World) (hn : tss.length = n) (hn10 : n ≤ 10) (h3 : ∀ ts ∈ tss, ts.length ≤ 3) (hwf : ∀ ts ∈ tss, ∀ T ∈ ts, WF n 2 T) (h : LLAt P w v0 tss) :
    Calls Tryz.prog 45 #[v0] w fun e w' => ∃ v' ms, e = .returned (.tuple #[.agg #[v'], .int .i64 0]) ∧ MemsAt (fun b => P b ∨ w.heap.size ≤ b) 3 w' v' ms ∧ JoinL true n tss n ms ∧ Below w.heap.size w w' := by
  have hba := balloc (bref w) (.cells #[.slice none 0 0] 27)
  have HK := Lib.hid (show (w.alloc (.cells #[.slice none 0 0] 27)).heap[w.heap.size]? = some (.cells #[.slice none 0 0] 27 (0, 0)) from alloc_at rfl)
  have HSZ := Lib.hid (alloc_sz w (.cells #[.slice none 0 0] 27))
  have HJ := Lib.hid (joined_run (fun b => P b ∧ b < w.heap.size) tss true n v0 (w.alloc (.cells #[.slice none 0 0] 27)) hn hn10 h3 hwf (by
    obtain ⟨A, c, h1, h2⟩ := h
    refine ⟨A, c, h1, fun k ts ht => ?_⟩
    obtain ⟨b, off, u, e1, e2, e3, e4⟩ := h2 k ts ht
    exact ⟨b, off, u, e1, ⟨e2, cell_lt e3⟩, (hba.cell (cell_lt e3)).trans e3, (e4.both (Q := fun b => P b ∧ b < w.heap.size) (fun _ _ _ => rfl) (fun k hk hp => ⟨hp, hk⟩)).below hba⟩))
  have HB := Lib.hid hba
  obtain ⟨A, c, rfl, _⟩ := h
  clear hn hn10 h3 hwf hba
  go_enter Tryz.func45, Tryz.ntmps45
  go_upto_region 1 with fail
  generalize (w.alloc (.cells #[.slice none 0 0] 27)) = W1 at *
  generalize hg : w.heap.size = g at *
  have HG := Lib.hid hg
  clear hg
  go_wp2_with fail
  refine HJ.out.mono ?_
  rintro e Wc ⟨v', ms, rfl, h1, h2, hb⟩
  obtain ⟨Av, cv, rfl⟩ := h1.slice
  obtain ⟨nv, hnv⟩ : ∃ nv, ms.length = nv := ⟨_, rfl⟩
  rw [hnv] at h1 ⊢
  have hrc := (hb.block g (Array.getElem?_eq_some_iff.1 HK.out).1).trans HK.out
  have z0 : Wc.cell? ⟨g, 0, none⟩ = some (.slice none 0 0) := cell_of_row _ _ 0 _ _ (0, 0) hrc
  have zf : Wc.frozen? ⟨g, 0, none⟩ = false := by simp [World.frozen?, hrc]
  have hset : (Wc.setCell ⟨g, 0, none⟩ (.slice Av nv cv)).heap[g]? = some (.cells #[.slice Av nv cv] 27 (0, 0)) := by
    simp [World.setCell, Array.getElem?_modify, hrc]
  have Q0 := Lib.hid (show (Wc.setCell ⟨g, 0, none⟩ (.slice Av nv cv)).cell? ⟨g, 0, none⟩ = some (.slice Av nv cv) from cell_of_row _ _ 0 _ _ (0, 0) hset)
  have HF := Lib.hid (show MemsAt (fun b => P b ∨ w.heap.size ≤ b) 3 (Wc.setCell ⟨g, 0, none⟩ (.slice Av nv cv)) (.slice Av nv cv) ms ∧ JoinL true n tss n ms ∧ Below w.heap.size w (Wc.setCell ⟨g, 0, none⟩ (.slice Av nv cv)) from by
    have hG := HG.out
    have hS := HSZ.out
    have hB := HB.out
    refine ⟨h1.both (fun q hq hP => Below.heap_setCell _ _ _ q (by show q ≠ g; rcases hP with hP | hP <;> omega)) (fun q _ hP => ?_), h2, bset (bstep (by rw [hG]; exact hB) hb) (p := ⟨g, 0, none⟩) (by show w.heap.size ≤ g; omega) _⟩
    rcases hP with hP | hP
    · exact .inl hP.1
    · exact .inr (by omega))
  clear hset hrc hb h1 h2 hnv HJ
  go_wp2_with fail
  have q0 := Q0.out
  refine bodyPost_ret (v := .tuple #[.agg #[.slice Av nv cv], .int .i64 0]) ?_ rfl ⟨_, ms, rfl, HF.out⟩
  simp [results, Tryz.results45, go_sem, q0]

end Go.Proofs.YtacpfcckilnbfaaGreat
