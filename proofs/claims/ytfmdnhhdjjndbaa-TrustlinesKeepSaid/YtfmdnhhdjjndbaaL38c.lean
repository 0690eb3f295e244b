/- The reference for offers: Add. -/
import Derived.Test.YtfmdnhhdjjndbaaL38b
import Derived.Test.YtfmdnhhdjjndbaaFlatS
import Derived.Test.YtfmdnhhdjjndbaaPhase
namespace Go.Proofs.Ytfmdnhhdjjndbaa
set_option linter.unusedVariables false
set_option linter.unusedSimpArgs false
open Go.RowKit

/-- A block with what it holds. -/
def HasB (b : Nat) (o : Obj) (W : World) : Prop := W.heap[b]? = some o

theorem HasB.below {b : Nat} {o : Obj} {W W' : World} (h : HasB b o W) (hb : Below W.heap.size W W') : HasB b o W' := (hb.block b (Array.getElem?_eq_some_iff.1 h).1).trans h

theorem HasB.alloc {b : Nat} {o : Obj} {W : World} (h : HasB b o W) (q : Obj) : HasB b o (W.alloc q) := h.below (balloc (bref _) _)

theorem HasB.lt {b : Nat} {o : Obj} {W : World} (h : HasB b o W) : b < W.heap.size := (Array.getElem?_eq_some_iff.1 h).1

theorem HasB.cs7 {b : Nat} {v0 v1 v2 v3 v4 v5 v6 : Value} {t : TypeId} {W : World} (h : HasB b (.cells #[v0, v1, v2, v3, v4, v5, v6] t (0, 0)) W) : Cs [(⟨b, 0, none⟩, v0), (⟨b, 1, none⟩, v1), (⟨b, 2, none⟩, v2), (⟨b, 3, none⟩, v3), (⟨b, 4, none⟩, v4), (⟨b, 5, none⟩, v5), (⟨b, 6, none⟩, v6)] W :=
  ⟨cell_of_row _ _ 0 _ _ (0, 0) h, cell_of_row _ _ 1 _ _ (0, 0) h, cell_of_row _ _ 2 _ _ (0, 0) h, cell_of_row _ _ 3 _ _ (0, 0) h, cell_of_row _ _ 4 _ _ (0, 0) h, cell_of_row _ _ 5 _ _ (0, 0) h, cell_of_row _ _ 6 _ _ (0, 0) h, trivial⟩

theorem HasB.fr {b : Nat} {xs : Array Value} {t : TypeId} {W : World} (h : HasB b (.cells xs t (0, 0)) W) (o : Nat) : W.frozen? ⟨b, o, none⟩ = false := by
  have h1 : W.heap[b]? = some (.cells xs t (0, 0)) := h
  simp [World.frozen?, h1]

section
variable {P : Program}

/-- append at a step of a region that draws: something or nothing is appended. -/
theorem step_own {ops : Array Oper} {o : Oper} {a : Act} {w : World} {K : Act → World → Prop} {Q : Exit → Act → World → Prop} {E : Prop} (hgd : o.guard = none) (s x : Operand) (t : TypeId)
    (ho : o.op = .call { callee := .builtin .append, args := #[s, x], argTypes := #[t, t] })
    (base : Nat) (e : TypeId) (i : TypeInfo) (z : Value) (size bytes : Nat) (ht : P.underlying t = some (.slice e)) (hi : P.info? e = some i) (hz : i.zero = some z)
    (hsize : i.size = size) (hby : i.bytes = bytes) (hzs : z.cells.size = size) (hsz : 0 < size)
    (v : Value) (n : Nat) (xs : List Value) (hs : a.eval s = v) (hown : w.ownsRow base e size v n xs)
    (ad : Addr) (m c : Nat) (news : List Value) (hx : a.eval x = .slice (some ad) m c) (hl : news.length = m * size) (hnews : ∀ j u, news[j]? = some u → w.cell? (ad.add j) = some u) (h1 : ∀ u ∈ news, u.oneCell' = true)
    (h63 : n + m ≤ maxLen) (hbytes : (n + m) * bytes ≤ 140737488355328) (hbase : base ≤ w.heap.size)
    (h : ∀ v' w', w'.ownsRow base e size v' (n + m) (xs ++ news) → w.grownBy w' v.ownBlock → K (a.put o.dst v') w') :
    if Region.wanted o (yielded ops a.tmps) = true then Oper.wp P o a w K Q else E := by
  have hw : Region.wanted o (yielded ops a.tmps) = true := by simp [Region.wanted, hgd]
  rw [if_pos hw]
  exact wp_append_own w s x t ho base e i z size bytes ht hi hz hsize hby hzs hsz v n xs hs hown ad m c news hx hl hnews h1 h63 hbytes hbase fun v' w' h2 h3 _ => h v' w' h2 h3
end

theorem own_below {w w' : World} {B : Nat} {e : TypeId} {n m : Nat} {v : Value} {xs : List Value} (h : w.ownsRow B e n v m xs) (hb : Below w.heap.size w w') : w'.ownsRow B e n v m xs := by
  refine ⟨h.1, ?_⟩
  rcases h.2 with h2 | ⟨gg, cap, cur, e1, e2, e3, e4⟩
  · exact .inl h2
  · exact .inr ⟨gg, cap, cur, e1, e2, (hb.block gg (Array.getElem?_eq_some_iff.1 e3).1).trans e3, e4⟩

/-- What Add returns. -/
structure AddOk (P : Nat → Prop) (w w' : World) (g : Led) (va vl : Value) (e : Ending) : Prop where
  out : (∃ er : Int, er ≠ 0 ∧ e = .returned (.tuple #[.agg #[.int .i64 0, .slice none 0 0, .slice none 0 0, .slice none 0 0, .int .i64 0, .int .i64 0, .int .u64 0], .int .i64 0, .int .i64 er])) ∨
    ∃ (vo' : Value) (o : Off), e = .returned (.tuple #[valG { g with offers := g.offers ++ [o], next := g.next + 1 } va vl vo', .int .i64 g.next, .int .i64 0]) ∧ OffAt (fun b => w.heap.size ≤ b) w' vo' (g.offers ++ [o]) ∧ LedOk { g with offers := g.offers ++ [o], next := g.next + 1 }
  bel : Below w.heap.size w w'

theorem LedOk.add {g : Led} (h : LedOk g) {o : Off} (ho : OffG { g with next := g.next + 1 } o) (hid : o.id = g.next) (hl : g.offers.length < 40) (hn : g.next < 1000000) : LedOk { g with offers := g.offers ++ [o], next := g.next + 1 } := by
  refine ⟨h.accs, h.lines, by simp; omega, fun k x hx => ?_, fun k x y hx hy => ?_, by have := h.n0; show 1 ≤ g.next + 1; omega, by show g.next + 1 ≤ 1000000; omega, h.f0, h.f1, h.m0, h.m1, h.l0, h.l1⟩
  · change (g.offers ++ [o])[k]? = some x at hx
    rcases Nat.lt_or_ge k g.offers.length with h1 | h1
    · rw [List.getElem?_append_left h1] at hx
      obtain ⟨q1, q2, q3, q4, q5, q6, q7, q8, q9, q10, q11, q12, q13⟩ := h.each k x hx
      exact ⟨q1, q2, by show x.id < g.next + 1; omega, q4, q5, q6, q7, q8, q9, q10, q11, q12, q13⟩
    · rw [List.getElem?_append_right h1] at hx
      have : k - g.offers.length = 0 := by
        rcases Nat.eq_zero_or_pos (k - g.offers.length) with h2 | h2
        · exact h2
        · rw [List.getElem?_eq_none (by simp; omega)] at hx; cases hx
      rw [this] at hx
      cases hx
      exact ⟨ho.has, ho.i0, ho.i1, ho.s2, ho.b2, ho.ne, ho.a0, ho.a1, ho.n0, ho.n1, ho.d0, ho.d1, ho.gcd⟩
  · change (g.offers ++ [o])[k]? = some x at hx
    change (g.offers ++ [o])[k + 1]? = some y at hy
    have hk : k < g.offers.length := by
      have := (List.getElem?_eq_some_iff.1 hy).1
      simp at this
      omega
    rw [List.getElem?_append_left hk] at hx
    rcases Nat.lt_or_ge (k + 1) g.offers.length with h1 | h1
    · rw [List.getElem?_append_left h1] at hy
      exact h.asc k x y hx hy
    · rw [List.getElem?_append_right h1, show k + 1 - g.offers.length = 0 by omega] at hy
      cases hy
      rw [hid]
      exact (h.each k x hx).i1

theorem gcd_red {n d : Nat} (hn : 1 ≤ n) : Nat.gcd (n / Nat.gcd n d) (d / Nat.gcd n d) = 1 := by
  rw [Nat.gcd_div (Nat.gcd_dvd_left _ _) (Nat.gcd_dvd_right _ _), Nat.div_self (Nat.gcd_pos_of_pos_left _ (by omega))]

theorem HasB.far {b : Nat} {o : Obj} {W : World} (h : HasB b o W) {p : Addr} (hp : p.block ≠ b) (u : Value) : HasB b o (W.setCell p u) := (Below.heap_setCell _ _ _ _ (fun e => hp e.symm)).trans h

theorem HasB.set3 {b : Nat} {v0 v1 v2 v3 v4 v5 v6 : Value} {t : TypeId} {W : World} (h : HasB b (.cells #[v0, v1, v2, v3, v4, v5, v6] t (0, 0)) W) (u : Value) : HasB b (.cells #[v0, v1, v2, u, v4, v5, v6] t (0, 0)) (W.setCell ⟨b, 3, none⟩ u) := by
  have h1 : W.heap[b]? = some (.cells #[v0, v1, v2, v3, v4, v5, v6] t (0, 0)) := h
  show (W.setCell ⟨b, 3, none⟩ u).heap[b]? = _
  simp [World.setCell, Array.getElem?_modify, h1]

/-- What stands in the slots of the two operations that make memory. -/
def AddR (B : Nat) (L : List Off) (o : Off) (j : Nat) (W : World) (v : Value) : Prop := if j = 2 then W.ownsRow B 100 9 v L.length (flatS encO L) else ∃ q, v = .slice (some ⟨q, 0, none⟩) 1 1 ∧ q < W.heap.size ∧ ∀ k u, (encO o)[k]? = some u → W.cell? ⟨q, k, none⟩ = some u

theorem AddR.mono {B : Nat} {L : List Off} {o : Off} {j : Nat} {W W' : World} {v : Value} (h : AddR B L o j W v) (hb : Below W.heap.size W W') : AddR B L o j W' v := by
  unfold AddR at *
  split at h
  · rename_i e; rw [if_pos e]; exact own_below h hb
  · rename_i e
    rw [if_neg e]
    obtain ⟨q, h1, h2, h3⟩ := h
    exact ⟨q, h1, Nat.lt_of_lt_of_le h2 hb.size, fun k u hu => (hb.cell (p := ⟨q, k, none⟩) h2).trans (h3 k u hu)⟩

theorem box4a (w : World) (a b c d : Obj) : HasB w.heap.size a ((((w.alloc a).alloc b).alloc c).alloc d) := by
  have h0 : HasB w.heap.size a (w.alloc a) := heap_alloc_new _ _
  exact ((h0.alloc b).alloc c).alloc d

theorem box4th (w : World) (a b c d : Obj) : HasB (w.heap.size + 1 + 1 + 1) d ((((w.alloc a).alloc b).alloc c).alloc d) := by
  have := heap_alloc_new (((w.alloc a).alloc b).alloc c) d
  rw [alloc_szS, alloc_szS, alloc_szS] at this
  exact this

set_option maxRecDepth 100000 in
set_option maxHeartbeats 4000000 in
theorem radd_run (P : Nat → Prop) (g : Led) (i : Int) (s b : Nat) (amt : Int) (n d : Nat) (va vl vo : Value) (w : World) (hs : s ≤ 2) (hb : b ≤ 2) (ha0 : 1 ≤ amt) (ha1 : amt ≤ 1000000000000) (hn0 : 1 ≤ n) (hn1 : n ≤ 1000000) (hd0 : 1 ≤ d) (hd1 : d ≤ 1000000)
    (hhas : hasA i g.accs = true) (hok : LedOk g) (hnil : g.offers = [] → vo = .slice none 0 0) (h : LedAt P w va vl vo g) :
    Calls Try.prog 37 #[valG g va vl vo, .int .i64 i, valS s, valS b, .int .i64 amt, .int .i64 (n : Int), .int .i64 (d : Int)] w fun e w' => AddOk P w w' g va vl e := by
  have HAL := Lib.hid (show g.accs.length ≤ 1000 by have := hok.accs.len; omega)
  unfold valG
  obtain ⟨A, c, B, c2, C, c3, rfl, rfl, rfl, hc, hm, hc2, hm2, hc3, hm3⟩ := h.form
  have hb1 := balloc (bref w) (.cells #[.int .i64 g.number, .slice A g.accs.length c, .slice B g.lines.length c2, .slice C g.offers.length c3, .int .i64 g.next, .int .i64 g.fees, .int .u64 g.link] 30)
  have hb2 := balloc hb1 (.cells #[.string (codeOf s), .int .i64 (issOf s)] 49)
  have hb3 := balloc hb2 (.cells #[.string (codeOf b), .int .i64 (issOf b)] 49)
  have hb4 := balloc hb3 (.cells #[.int .i64 0, .slice none 0 0, .slice none 0 0, .slice none 0 0, .int .i64 0, .int .i64 0, .int .u64 0] 30)
  have HX0 := Lib.hid ((((box7 w 30 (.int .i64 g.number) (.slice A g.accs.length c) (.slice B g.lines.length c2) (.slice C g.offers.length c3) (.int .i64 g.next) (.int .i64 g.fees) (.int .u64 g.link)).alloc (.cells #[.string (codeOf s), .int .i64 (issOf s)] 49)).alloc (.cells #[.string (codeOf b), .int .i64 (issOf b)] 49)).alloc (.cells #[.int .i64 0, .slice none 0 0, .slice none 0 0, .slice none 0 0, .int .i64 0, .int .i64 0, .int .u64 0] 30))
  have hbx := box2 (w.alloc (.cells #[.int .i64 g.number, .slice A g.accs.length c, .slice B g.lines.length c2, .slice C g.offers.length c3, .int .i64 g.next, .int .i64 g.fees, .int .u64 g.link] 30)) 49 (.string (codeOf s)) (.int .i64 (issOf s))
  rw [alloc_szS] at hbx
  have HS0 := Lib.hid ((hbx.alloc (.cells #[.string (codeOf b), .int .i64 (issOf b)] 49)).alloc (.cells #[.int .i64 0, .slice none 0 0, .slice none 0 0, .slice none 0 0, .int .i64 0, .int .i64 0, .int .u64 0] 30))
  have hby := box2 ((w.alloc (.cells #[.int .i64 g.number, .slice A g.accs.length c, .slice B g.lines.length c2, .slice C g.offers.length c3, .int .i64 g.next, .int .i64 g.fees, .int .u64 g.link] 30)).alloc (.cells #[.string (codeOf s), .int .i64 (issOf s)] 49)) 49 (.string (codeOf b)) (.int .i64 (issOf b))
  rw [alloc_szS, alloc_szS] at hby
  have HY0 := Lib.hid (hby.alloc (.cells #[.int .i64 0, .slice none 0 0, .slice none 0 0, .slice none 0 0, .int .i64 0, .int .i64 0, .int .u64 0] 30))
  have HZ0 := Lib.hid (box4th w (.cells #[.int .i64 g.number, .slice A g.accs.length c, .slice B g.lines.length c2, .slice C g.offers.length c3, .int .i64 g.next, .int .i64 g.fees, .int .u64 g.link] 30) (.cells #[.string (codeOf s), .int .i64 (issOf s)] 49) (.cells #[.string (codeOf b), .int .i64 (issOf b)] 49) (.cells #[.int .i64 0, .slice none 0 0, .slice none 0 0, .slice none 0 0, .int .i64 0, .int .i64 0, .int .u64 0] 30))
  have HG0 := Lib.hid (box4a w (.cells #[.int .i64 g.number, .slice A g.accs.length c, .slice B g.lines.length c2, .slice C g.offers.length c3, .int .i64 g.next, .int .i64 g.fees, .int .u64 g.link] 30) (.cells #[.string (codeOf s), .int .i64 (issOf s)] 49) (.cells #[.string (codeOf b), .int .i64 (issOf b)] 49) (.cells #[.int .i64 0, .slice none 0 0, .slice none 0 0, .slice none 0 0, .int .i64 0, .int .i64 0, .int .u64 0] 30))
  have HL0 := Lib.hid (h.below hb4)
  have HB0 := Lib.hid hb4
  have HCK := Lib.hid (fun W (hW : LedAt P W (.slice A g.accs.length c) (.slice B g.lines.length c2) (.slice C g.offers.length c3) g) => rcheck38_run P g _ _ _ W hok hW)
  have HFD := Lib.hid (fun W (hW : LedAt P W (.slice A g.accs.length c) (.slice B g.lines.length c2) (.slice C g.offers.length c3) g) => rfind36_run P g.accs i _ W HAL.out hW.a)
  have HAS := Lib.hid (fun W => rasset_run s W hs)
  have HAB := Lib.hid (fun W => rasset_run b W hb)
  have HO1 := Lib.hid (fun W (hW : LedAt P W (.slice A g.accs.length c) (.slice B g.lines.length c2) (.slice C g.offers.length c3) g) => rholdsA_run P g i s _ _ _ W hs hok hW)
  have HO2 := Lib.hid (fun W (hW : LedAt P W (.slice A g.accs.length c) (.slice B g.lines.length c2) (.slice C g.offers.length c3) g) => rholdsA_run P g i b _ _ _ W hb hok hW)
  have HHE := Lib.hid (fun W (hW : LedAt P W (.slice A g.accs.length c) (.slice B g.lines.length c2) (.slice C g.offers.length c3) g) => rheld_run P g i s _ _ _ W hs hok hW)
  have HRD := Lib.hid (fun W => rreduce_ok n d W hn0 hn1 hd0 hd1)
  unfold valG at HCK HO1 HO2 HHE
  unfold valS at *
  have hok1 := okI_yes (show 0 ≤ amt by omega) ha1
  have hok2 := okP_yes (n := (n : Int)) (d := (d : Int)) (by omega) (by omega) (by omega) (by omega)
  have q0 : decide (amt < 1) = false := decide_eq_false (by omega)
  obtain ⟨x0, x1, x2, hx⟩ : ∃ x0 x1 x2, valA (getA i g.accs) = .agg #[.int .i64 x0, .int .i64 x1, .int .i64 x2] := ⟨_, _, _, rfl⟩
  have HXV := Lib.hid hx
  have HHS := Lib.hid hhas
  have HOK := Lib.hid hok
  have HWF := Lib.hid h
  have HND := Lib.hid (And.intro (And.intro hn0 hn1) (And.intro hd0 hd1))
  have hce := code_eq hs hb
  have hie := iss_eq hs hb
  have HAM := Lib.hid (And.intro ha0 ha1)
  have HSB := Lib.hid (And.intro hs hb)
  have HNE := Lib.hid hnil
  clear hx hhas hok h hb1 hb2 hb3 hb4 hbx hby hn0 hn1 hd0 hd1 ha0 ha1 hnil
  rcases Decidable.em (s = b) with hsb | hsb
  · rw [show (s == b) = true by simpa using hsb] at hce hie
    clear hsb
    go_enter Try.func37, Try.ntmps37
    go_upto_region 1 with fail
    generalize (((w.alloc (.cells #[.int .i64 g.number, .slice A g.accs.length c, .slice B g.lines.length c2, .slice C g.offers.length c3, .int .i64 g.next, .int .i64 g.fees, .int .u64 g.link] 30)).alloc (.cells #[.string (codeOf s), .int .i64 (issOf s)] 49)).alloc (.cells #[.string (codeOf b), .int .i64 (issOf b)] 49)).alloc (.cells #[.int .i64 0, .slice none 0 0, .slice none 0 0, .slice none 0 0, .int .i64 0, .int .i64 0, .int .u64 0] 30) = W0 at *
    obtain ⟨x_0, x_1, x_2, x_3, x_4, x_5, x_6, _⟩ := HX0.out
    obtain ⟨s_0, s_1, _⟩ := HS0.out
    obtain ⟨y_0, y_1, _⟩ := HY0.out
    go_wp2_with fail
    refine (HCK.out _ HL0.out).mono ?_
    rintro e w1 ⟨rfl, hb1⟩
    have HX1 := Lib.hid (HX0.out.below hb1)
    have HS1 := Lib.hid (HS0.out.below hb1)
    have HY1 := Lib.hid (HY0.out.below hb1)
    have HZ1 := Lib.hid (HZ0.out.below hb1)
    have HG1 := Lib.hid (HG0.out.below hb1)
    have HL1 := Lib.hid (HL0.out.below hb1)
    have HB1 := Lib.hid (bstep HB0.out hb1)
    clear x_0 x_1 x_2 x_3 x_4 x_5 x_6 s_0 s_1 y_0 y_1
    clear hb1
    obtain ⟨x_0, x_1, x_2, x_3, x_4, x_5, x_6, _⟩ := HX1.out
    obtain ⟨s_0, s_1, _⟩ := HS1.out
    obtain ⟨y_0, y_1, _⟩ := HY1.out
    go_wp2_with fail
    refine (HFD.out _ HL1.out).mono ?_
    rintro e w2 ⟨rfl, hb2⟩
    have HX2 := Lib.hid (HX1.out.below hb2)
    have HS2 := Lib.hid (HS1.out.below hb2)
    have HY2 := Lib.hid (HY1.out.below hb2)
    have HZ2 := Lib.hid (HZ1.out.below hb2)
    have HG2 := Lib.hid (HG1.out.below hb2)
    have HL2 := Lib.hid (HL1.out.below hb2)
    have HB2 := Lib.hid (bstep HB1.out hb2)
    clear x_0 x_1 x_2 x_3 x_4 x_5 x_6 s_0 s_1 y_0 y_1
    clear hb2
    rw [HXV.out, HHS.out]
    have HX3 := Lib.hid (HX2.out.alloc (.cells #[.int .i64 x0, .int .i64 x1, .int .i64 x2] 34))
    have HS3 := Lib.hid (HS2.out.alloc (.cells #[.int .i64 x0, .int .i64 x1, .int .i64 x2] 34))
    have HY3 := Lib.hid (HY2.out.alloc (.cells #[.int .i64 x0, .int .i64 x1, .int .i64 x2] 34))
    have HZ3 := Lib.hid (HZ2.out.alloc (.cells #[.int .i64 x0, .int .i64 x1, .int .i64 x2] 34))
    have HG3 := Lib.hid (HG2.out.alloc (.cells #[.int .i64 x0, .int .i64 x1, .int .i64 x2] 34))
    have HL3 := Lib.hid (HL2.out.alloc (.cells #[.int .i64 x0, .int .i64 x1, .int .i64 x2] 34))
    have HB3 := Lib.hid (balloc HB2.out (.cells #[.int .i64 x0, .int .i64 x1, .int .i64 x2] 34))
    go_upto_region 5 with fail
    generalize w2.alloc (.cells #[.int .i64 x0, .int .i64 x1, .int .i64 x2] 34) = W2 at *
    obtain ⟨x_0, x_1, x_2, x_3, x_4, x_5, x_6, _⟩ := HX3.out
    obtain ⟨s_0, s_1, _⟩ := HS3.out
    obtain ⟨y_0, y_1, _⟩ := HY3.out
    go_wp2_with fail
    refine (HAS.out _).mono ?_
    rintro e w4 ⟨rfl, hb4⟩
    have HX4 := Lib.hid (HX3.out.below hb4)
    have HS4 := Lib.hid (HS3.out.below hb4)
    have HY4 := Lib.hid (HY3.out.below hb4)
    have HZ4 := Lib.hid (HZ3.out.below hb4)
    have HG4 := Lib.hid (HG3.out.below hb4)
    have HL4 := Lib.hid (HL3.out.below hb4)
    have HB4 := Lib.hid (bstep HB3.out hb4)
    clear x_0 x_1 x_2 x_3 x_4 x_5 x_6 s_0 s_1 y_0 y_1
    clear hb4
    obtain ⟨x_0, x_1, x_2, x_3, x_4, x_5, x_6, _⟩ := HX4.out
    obtain ⟨s_0, s_1, _⟩ := HS4.out
    obtain ⟨y_0, y_1, _⟩ := HY4.out
    go_wp2_with fail
    refine (HAB.out _).mono ?_
    rintro e w5 ⟨rfl, hb5⟩
    have HX5 := Lib.hid (HX4.out.below hb5)
    have HS5 := Lib.hid (HS4.out.below hb5)
    have HY5 := Lib.hid (HY4.out.below hb5)
    have HZ5 := Lib.hid (HZ4.out.below hb5)
    have HG5 := Lib.hid (HG4.out.below hb5)
    have HL5 := Lib.hid (HL4.out.below hb5)
    have HB5 := Lib.hid (bstep HB4.out hb5)
    clear x_0 x_1 x_2 x_3 x_4 x_5 x_6 s_0 s_1 y_0 y_1
    clear hb5
    obtain ⟨x_0, x_1, x_2, x_3, x_4, x_5, x_6, _⟩ := HX5.out
    obtain ⟨s_0, s_1, _⟩ := HS5.out
    obtain ⟨y_0, y_1, _⟩ := HY5.out
    
    go_upto_region 8 with fail
    have HK := Lib.hid HZ5.out
    obtain ⟨z0, z1, z2, z3, z4, z5, z6, _⟩ := HZ5.out.cs7
    have f0 := HZ5.out.fr 0
    have f1 := HZ5.out.fr 1
    have f2 := HZ5.out.fr 2
    have f3 := HZ5.out.fr 3
    have f4 := HZ5.out.fr 4
    have f5 := HZ5.out.fr 5
    have f6 := HZ5.out.fr 6
    have HF := Lib.hid (bset (bset (bset (bset (bset (bset (bset (HB5.out) (p := ⟨w.heap.size + 1 + 1 + 1, 0, none⟩) (by show w.heap.size ≤ w.heap.size + 1 + 1 + 1; omega) (.int .i64 0)) (p := ⟨w.heap.size + 1 + 1 + 1, 1, none⟩) (by show w.heap.size ≤ w.heap.size + 1 + 1 + 1; omega) (.slice none 0 0)) (p := ⟨w.heap.size + 1 + 1 + 1, 2, none⟩) (by show w.heap.size ≤ w.heap.size + 1 + 1 + 1; omega) (.slice none 0 0)) (p := ⟨w.heap.size + 1 + 1 + 1, 3, none⟩) (by show w.heap.size ≤ w.heap.size + 1 + 1 + 1; omega) (.slice none 0 0)) (p := ⟨w.heap.size + 1 + 1 + 1, 4, none⟩) (by show w.heap.size ≤ w.heap.size + 1 + 1 + 1; omega) (.int .i64 0)) (p := ⟨w.heap.size + 1 + 1 + 1, 5, none⟩) (by show w.heap.size ≤ w.heap.size + 1 + 1 + 1; omega) (.int .i64 0)) (p := ⟨w.heap.size + 1 + 1 + 1, 6, none⟩) (by show w.heap.size ≤ w.heap.size + 1 + 1 + 1; omega) (.int .u64 0))
    clear x_0 x_1 x_2 x_3 x_4 x_5 x_6 s_0 s_1 y_0 y_1
    go_wp2_with fail
    refine bodyPost_ret (v := .tuple #[.agg #[.int .i64 0, .slice none 0 0, .slice none 0 0, .slice none 0 0, .int .i64 0, .int .i64 0, .int .u64 0], .int .i64 0, .int .i64 71]) ?_ rfl ⟨.inl ⟨71, by decide, rfl⟩, HF.out⟩
    simp [results, Try.results37, go_sem, z0, z1, z2, z3, z4, z5, z6, (show _ = _ from HK.out)]
  · rw [show (s == b) = false by simpa using hsb] at hce hie
    have HSN := Lib.hid hsb
    clear hsb
    rcases (show holdsG g i s = false ∨ holdsG g i s = true by cases holdsG g i s <;> simp) with h1 | h1
    · have H1 := Lib.hid h1
      clear h1
      go_enter Try.func37, Try.ntmps37
      go_upto_region 1 with fail
      generalize (((w.alloc (.cells #[.int .i64 g.number, .slice A g.accs.length c, .slice B g.lines.length c2, .slice C g.offers.length c3, .int .i64 g.next, .int .i64 g.fees, .int .u64 g.link] 30)).alloc (.cells #[.string (codeOf s), .int .i64 (issOf s)] 49)).alloc (.cells #[.string (codeOf b), .int .i64 (issOf b)] 49)).alloc (.cells #[.int .i64 0, .slice none 0 0, .slice none 0 0, .slice none 0 0, .int .i64 0, .int .i64 0, .int .u64 0] 30) = W0 at *
      obtain ⟨x_0, x_1, x_2, x_3, x_4, x_5, x_6, _⟩ := HX0.out
      obtain ⟨s_0, s_1, _⟩ := HS0.out
      obtain ⟨y_0, y_1, _⟩ := HY0.out
      go_wp2_with fail
      refine (HCK.out _ HL0.out).mono ?_
      rintro e w1 ⟨rfl, hb1⟩
      have HX1 := Lib.hid (HX0.out.below hb1)
      have HS1 := Lib.hid (HS0.out.below hb1)
      have HY1 := Lib.hid (HY0.out.below hb1)
      have HZ1 := Lib.hid (HZ0.out.below hb1)
      have HG1 := Lib.hid (HG0.out.below hb1)
      have HL1 := Lib.hid (HL0.out.below hb1)
      have HB1 := Lib.hid (bstep HB0.out hb1)
      clear x_0 x_1 x_2 x_3 x_4 x_5 x_6 s_0 s_1 y_0 y_1
      clear hb1
      obtain ⟨x_0, x_1, x_2, x_3, x_4, x_5, x_6, _⟩ := HX1.out
      obtain ⟨s_0, s_1, _⟩ := HS1.out
      obtain ⟨y_0, y_1, _⟩ := HY1.out
      go_wp2_with fail
      refine (HFD.out _ HL1.out).mono ?_
      rintro e w2 ⟨rfl, hb2⟩
      have HX2 := Lib.hid (HX1.out.below hb2)
      have HS2 := Lib.hid (HS1.out.below hb2)
      have HY2 := Lib.hid (HY1.out.below hb2)
      have HZ2 := Lib.hid (HZ1.out.below hb2)
      have HG2 := Lib.hid (HG1.out.below hb2)
      have HL2 := Lib.hid (HL1.out.below hb2)
      have HB2 := Lib.hid (bstep HB1.out hb2)
      clear x_0 x_1 x_2 x_3 x_4 x_5 x_6 s_0 s_1 y_0 y_1
      clear hb2
      rw [HXV.out, HHS.out]
      have HX3 := Lib.hid (HX2.out.alloc (.cells #[.int .i64 x0, .int .i64 x1, .int .i64 x2] 34))
      have HS3 := Lib.hid (HS2.out.alloc (.cells #[.int .i64 x0, .int .i64 x1, .int .i64 x2] 34))
      have HY3 := Lib.hid (HY2.out.alloc (.cells #[.int .i64 x0, .int .i64 x1, .int .i64 x2] 34))
      have HZ3 := Lib.hid (HZ2.out.alloc (.cells #[.int .i64 x0, .int .i64 x1, .int .i64 x2] 34))
      have HG3 := Lib.hid (HG2.out.alloc (.cells #[.int .i64 x0, .int .i64 x1, .int .i64 x2] 34))
      have HL3 := Lib.hid (HL2.out.alloc (.cells #[.int .i64 x0, .int .i64 x1, .int .i64 x2] 34))
      have HB3 := Lib.hid (balloc HB2.out (.cells #[.int .i64 x0, .int .i64 x1, .int .i64 x2] 34))
      go_upto_region 5 with fail
      generalize w2.alloc (.cells #[.int .i64 x0, .int .i64 x1, .int .i64 x2] 34) = W2 at *
      obtain ⟨x_0, x_1, x_2, x_3, x_4, x_5, x_6, _⟩ := HX3.out
      obtain ⟨s_0, s_1, _⟩ := HS3.out
      obtain ⟨y_0, y_1, _⟩ := HY3.out
      go_wp2_with fail
      refine (HAS.out _).mono ?_
      rintro e w4 ⟨rfl, hb4⟩
      have HX4 := Lib.hid (HX3.out.below hb4)
      have HS4 := Lib.hid (HS3.out.below hb4)
      have HY4 := Lib.hid (HY3.out.below hb4)
      have HZ4 := Lib.hid (HZ3.out.below hb4)
      have HG4 := Lib.hid (HG3.out.below hb4)
      have HL4 := Lib.hid (HL3.out.below hb4)
      have HB4 := Lib.hid (bstep HB3.out hb4)
      clear x_0 x_1 x_2 x_3 x_4 x_5 x_6 s_0 s_1 y_0 y_1
      clear hb4
      obtain ⟨x_0, x_1, x_2, x_3, x_4, x_5, x_6, _⟩ := HX4.out
      obtain ⟨s_0, s_1, _⟩ := HS4.out
      obtain ⟨y_0, y_1, _⟩ := HY4.out
      go_wp2_with fail
      refine (HAB.out _).mono ?_
      rintro e w5 ⟨rfl, hb5⟩
      have HX5 := Lib.hid (HX4.out.below hb5)
      have HS5 := Lib.hid (HS4.out.below hb5)
      have HY5 := Lib.hid (HY4.out.below hb5)
      have HZ5 := Lib.hid (HZ4.out.below hb5)
      have HG5 := Lib.hid (HG4.out.below hb5)
      have HL5 := Lib.hid (HL4.out.below hb5)
      have HB5 := Lib.hid (bstep HB4.out hb5)
      clear x_0 x_1 x_2 x_3 x_4 x_5 x_6 s_0 s_1 y_0 y_1
      clear hb5
      obtain ⟨x_0, x_1, x_2, x_3, x_4, x_5, x_6, _⟩ := HX5.out
      obtain ⟨s_0, s_1, _⟩ := HS5.out
      obtain ⟨y_0, y_1, _⟩ := HY5.out
      go_upto_region 9 with fail
      go_wp2_with (first | (go_at_call 67; refine (rvalid_any _ _).mono ?_; rintro e w2 ⟨rfl, rfl⟩) | (go_at_call 68; refine (rprice_any _ _ _).mono ?_; rintro e w2 ⟨rfl, rfl⟩))
      refine (HO1.out _ HL5.out).mono ?_
      rintro e w6 ⟨rfl, hb6⟩
      have HX6 := Lib.hid (HX5.out.below hb6)
      have HS6 := Lib.hid (HS5.out.below hb6)
      have HY6 := Lib.hid (HY5.out.below hb6)
      have HZ6 := Lib.hid (HZ5.out.below hb6)
      have HG6 := Lib.hid (HG5.out.below hb6)
      have HL6 := Lib.hid (HL5.out.below hb6)
      have HB6 := Lib.hid (bstep HB5.out hb6)
      clear x_0 x_1 x_2 x_3 x_4 x_5 x_6 s_0 s_1 y_0 y_1
      clear hb6
      obtain ⟨x_0, x_1, x_2, x_3, x_4, x_5, x_6, _⟩ := HX6.out
      obtain ⟨s_0, s_1, _⟩ := HS6.out
      obtain ⟨y_0, y_1, _⟩ := HY6.out
      rw [H1.out]
      go_upto_region 12 with fail
      have HK := Lib.hid HZ6.out
      obtain ⟨z0, z1, z2, z3, z4, z5, z6, _⟩ := HZ6.out.cs7
      have f0 := HZ6.out.fr 0
      have f1 := HZ6.out.fr 1
      have f2 := HZ6.out.fr 2
      have f3 := HZ6.out.fr 3
      have f4 := HZ6.out.fr 4
      have f5 := HZ6.out.fr 5
      have f6 := HZ6.out.fr 6
      have HF := Lib.hid (bset (bset (bset (bset (bset (bset (bset (HB6.out) (p := ⟨w.heap.size + 1 + 1 + 1, 0, none⟩) (by show w.heap.size ≤ w.heap.size + 1 + 1 + 1; omega) (.int .i64 0)) (p := ⟨w.heap.size + 1 + 1 + 1, 1, none⟩) (by show w.heap.size ≤ w.heap.size + 1 + 1 + 1; omega) (.slice none 0 0)) (p := ⟨w.heap.size + 1 + 1 + 1, 2, none⟩) (by show w.heap.size ≤ w.heap.size + 1 + 1 + 1; omega) (.slice none 0 0)) (p := ⟨w.heap.size + 1 + 1 + 1, 3, none⟩) (by show w.heap.size ≤ w.heap.size + 1 + 1 + 1; omega) (.slice none 0 0)) (p := ⟨w.heap.size + 1 + 1 + 1, 4, none⟩) (by show w.heap.size ≤ w.heap.size + 1 + 1 + 1; omega) (.int .i64 0)) (p := ⟨w.heap.size + 1 + 1 + 1, 5, none⟩) (by show w.heap.size ≤ w.heap.size + 1 + 1 + 1; omega) (.int .i64 0)) (p := ⟨w.heap.size + 1 + 1 + 1, 6, none⟩) (by show w.heap.size ≤ w.heap.size + 1 + 1 + 1; omega) (.int .u64 0))
      clear x_0 x_1 x_2 x_3 x_4 x_5 x_6 s_0 s_1 y_0 y_1
      go_wp2_with fail
      refine bodyPost_ret (v := .tuple #[.agg #[.int .i64 0, .slice none 0 0, .slice none 0 0, .slice none 0 0, .int .i64 0, .int .i64 0, .int .u64 0], .int .i64 0, .int .i64 70]) ?_ rfl ⟨.inl ⟨70, by decide, rfl⟩, HF.out⟩
      simp [results, Try.results37, go_sem, z0, z1, z2, z3, z4, z5, z6, (show _ = _ from HK.out)]
    · have H1 := Lib.hid h1
      clear h1
      rcases (show holdsG g i b = false ∨ holdsG g i b = true by cases holdsG g i b <;> simp) with h2 | h2
      · have H2 := Lib.hid h2
        clear h2
        go_enter Try.func37, Try.ntmps37
        go_upto_region 1 with fail
        generalize (((w.alloc (.cells #[.int .i64 g.number, .slice A g.accs.length c, .slice B g.lines.length c2, .slice C g.offers.length c3, .int .i64 g.next, .int .i64 g.fees, .int .u64 g.link] 30)).alloc (.cells #[.string (codeOf s), .int .i64 (issOf s)] 49)).alloc (.cells #[.string (codeOf b), .int .i64 (issOf b)] 49)).alloc (.cells #[.int .i64 0, .slice none 0 0, .slice none 0 0, .slice none 0 0, .int .i64 0, .int .i64 0, .int .u64 0] 30) = W0 at *
        obtain ⟨x_0, x_1, x_2, x_3, x_4, x_5, x_6, _⟩ := HX0.out
        obtain ⟨s_0, s_1, _⟩ := HS0.out
        obtain ⟨y_0, y_1, _⟩ := HY0.out
        go_wp2_with fail
        refine (HCK.out _ HL0.out).mono ?_
        rintro e w1 ⟨rfl, hb1⟩
        have HX1 := Lib.hid (HX0.out.below hb1)
        have HS1 := Lib.hid (HS0.out.below hb1)
        have HY1 := Lib.hid (HY0.out.below hb1)
        have HZ1 := Lib.hid (HZ0.out.below hb1)
        have HG1 := Lib.hid (HG0.out.below hb1)
        have HL1 := Lib.hid (HL0.out.below hb1)
        have HB1 := Lib.hid (bstep HB0.out hb1)
        clear x_0 x_1 x_2 x_3 x_4 x_5 x_6 s_0 s_1 y_0 y_1
        clear hb1
        obtain ⟨x_0, x_1, x_2, x_3, x_4, x_5, x_6, _⟩ := HX1.out
        obtain ⟨s_0, s_1, _⟩ := HS1.out
        obtain ⟨y_0, y_1, _⟩ := HY1.out
        go_wp2_with fail
        refine (HFD.out _ HL1.out).mono ?_
        rintro e w2 ⟨rfl, hb2⟩
        have HX2 := Lib.hid (HX1.out.below hb2)
        have HS2 := Lib.hid (HS1.out.below hb2)
        have HY2 := Lib.hid (HY1.out.below hb2)
        have HZ2 := Lib.hid (HZ1.out.below hb2)
        have HG2 := Lib.hid (HG1.out.below hb2)
        have HL2 := Lib.hid (HL1.out.below hb2)
        have HB2 := Lib.hid (bstep HB1.out hb2)
        clear x_0 x_1 x_2 x_3 x_4 x_5 x_6 s_0 s_1 y_0 y_1
        clear hb2
        rw [HXV.out, HHS.out]
        have HX3 := Lib.hid (HX2.out.alloc (.cells #[.int .i64 x0, .int .i64 x1, .int .i64 x2] 34))
        have HS3 := Lib.hid (HS2.out.alloc (.cells #[.int .i64 x0, .int .i64 x1, .int .i64 x2] 34))
        have HY3 := Lib.hid (HY2.out.alloc (.cells #[.int .i64 x0, .int .i64 x1, .int .i64 x2] 34))
        have HZ3 := Lib.hid (HZ2.out.alloc (.cells #[.int .i64 x0, .int .i64 x1, .int .i64 x2] 34))
        have HG3 := Lib.hid (HG2.out.alloc (.cells #[.int .i64 x0, .int .i64 x1, .int .i64 x2] 34))
        have HL3 := Lib.hid (HL2.out.alloc (.cells #[.int .i64 x0, .int .i64 x1, .int .i64 x2] 34))
        have HB3 := Lib.hid (balloc HB2.out (.cells #[.int .i64 x0, .int .i64 x1, .int .i64 x2] 34))
        go_upto_region 5 with fail
        generalize w2.alloc (.cells #[.int .i64 x0, .int .i64 x1, .int .i64 x2] 34) = W2 at *
        obtain ⟨x_0, x_1, x_2, x_3, x_4, x_5, x_6, _⟩ := HX3.out
        obtain ⟨s_0, s_1, _⟩ := HS3.out
        obtain ⟨y_0, y_1, _⟩ := HY3.out
        go_wp2_with fail
        refine (HAS.out _).mono ?_
        rintro e w4 ⟨rfl, hb4⟩
        have HX4 := Lib.hid (HX3.out.below hb4)
        have HS4 := Lib.hid (HS3.out.below hb4)
        have HY4 := Lib.hid (HY3.out.below hb4)
        have HZ4 := Lib.hid (HZ3.out.below hb4)
        have HG4 := Lib.hid (HG3.out.below hb4)
        have HL4 := Lib.hid (HL3.out.below hb4)
        have HB4 := Lib.hid (bstep HB3.out hb4)
        clear x_0 x_1 x_2 x_3 x_4 x_5 x_6 s_0 s_1 y_0 y_1
        clear hb4
        obtain ⟨x_0, x_1, x_2, x_3, x_4, x_5, x_6, _⟩ := HX4.out
        obtain ⟨s_0, s_1, _⟩ := HS4.out
        obtain ⟨y_0, y_1, _⟩ := HY4.out
        go_wp2_with fail
        refine (HAB.out _).mono ?_
        rintro e w5 ⟨rfl, hb5⟩
        have HX5 := Lib.hid (HX4.out.below hb5)
        have HS5 := Lib.hid (HS4.out.below hb5)
        have HY5 := Lib.hid (HY4.out.below hb5)
        have HZ5 := Lib.hid (HZ4.out.below hb5)
        have HG5 := Lib.hid (HG4.out.below hb5)
        have HL5 := Lib.hid (HL4.out.below hb5)
        have HB5 := Lib.hid (bstep HB4.out hb5)
        clear x_0 x_1 x_2 x_3 x_4 x_5 x_6 s_0 s_1 y_0 y_1
        clear hb5
        obtain ⟨x_0, x_1, x_2, x_3, x_4, x_5, x_6, _⟩ := HX5.out
        obtain ⟨s_0, s_1, _⟩ := HS5.out
        obtain ⟨y_0, y_1, _⟩ := HY5.out
        go_upto_region 9 with fail
        go_wp2_with (first | (go_at_call 67; refine (rvalid_any _ _).mono ?_; rintro e w2 ⟨rfl, rfl⟩) | (go_at_call 68; refine (rprice_any _ _ _).mono ?_; rintro e w2 ⟨rfl, rfl⟩))
        refine (HO1.out _ HL5.out).mono ?_
        rintro e w6 ⟨rfl, hb6⟩
        have HX6 := Lib.hid (HX5.out.below hb6)
        have HS6 := Lib.hid (HS5.out.below hb6)
        have HY6 := Lib.hid (HY5.out.below hb6)
        have HZ6 := Lib.hid (HZ5.out.below hb6)
        have HG6 := Lib.hid (HG5.out.below hb6)
        have HL6 := Lib.hid (HL5.out.below hb6)
        have HB6 := Lib.hid (bstep HB5.out hb6)
        clear x_0 x_1 x_2 x_3 x_4 x_5 x_6 s_0 s_1 y_0 y_1
        clear hb6
        obtain ⟨x_0, x_1, x_2, x_3, x_4, x_5, x_6, _⟩ := HX6.out
        obtain ⟨s_0, s_1, _⟩ := HS6.out
        obtain ⟨y_0, y_1, _⟩ := HY6.out
        rw [H1.out]
        go_wp2_with fail
        refine (HO2.out _ HL6.out).mono ?_
        rintro e w7 ⟨rfl, hb7⟩
        have HX7 := Lib.hid (HX6.out.below hb7)
        have HS7 := Lib.hid (HS6.out.below hb7)
        have HY7 := Lib.hid (HY6.out.below hb7)
        have HZ7 := Lib.hid (HZ6.out.below hb7)
        have HG7 := Lib.hid (HG6.out.below hb7)
        have HL7 := Lib.hid (HL6.out.below hb7)
        have HB7 := Lib.hid (bstep HB6.out hb7)
        clear x_0 x_1 x_2 x_3 x_4 x_5 x_6 s_0 s_1 y_0 y_1
        clear hb7
        obtain ⟨x_0, x_1, x_2, x_3, x_4, x_5, x_6, _⟩ := HX7.out
        obtain ⟨s_0, s_1, _⟩ := HS7.out
        obtain ⟨y_0, y_1, _⟩ := HY7.out
        rw [H2.out]
        go_upto_region 12 with fail
        have HK := Lib.hid HZ7.out
        obtain ⟨z0, z1, z2, z3, z4, z5, z6, _⟩ := HZ7.out.cs7
        have f0 := HZ7.out.fr 0
        have f1 := HZ7.out.fr 1
        have f2 := HZ7.out.fr 2
        have f3 := HZ7.out.fr 3
        have f4 := HZ7.out.fr 4
        have f5 := HZ7.out.fr 5
        have f6 := HZ7.out.fr 6
        have HF := Lib.hid (bset (bset (bset (bset (bset (bset (bset (HB7.out) (p := ⟨w.heap.size + 1 + 1 + 1, 0, none⟩) (by show w.heap.size ≤ w.heap.size + 1 + 1 + 1; omega) (.int .i64 0)) (p := ⟨w.heap.size + 1 + 1 + 1, 1, none⟩) (by show w.heap.size ≤ w.heap.size + 1 + 1 + 1; omega) (.slice none 0 0)) (p := ⟨w.heap.size + 1 + 1 + 1, 2, none⟩) (by show w.heap.size ≤ w.heap.size + 1 + 1 + 1; omega) (.slice none 0 0)) (p := ⟨w.heap.size + 1 + 1 + 1, 3, none⟩) (by show w.heap.size ≤ w.heap.size + 1 + 1 + 1; omega) (.slice none 0 0)) (p := ⟨w.heap.size + 1 + 1 + 1, 4, none⟩) (by show w.heap.size ≤ w.heap.size + 1 + 1 + 1; omega) (.int .i64 0)) (p := ⟨w.heap.size + 1 + 1 + 1, 5, none⟩) (by show w.heap.size ≤ w.heap.size + 1 + 1 + 1; omega) (.int .i64 0)) (p := ⟨w.heap.size + 1 + 1 + 1, 6, none⟩) (by show w.heap.size ≤ w.heap.size + 1 + 1 + 1; omega) (.int .u64 0))
        clear x_0 x_1 x_2 x_3 x_4 x_5 x_6 s_0 s_1 y_0 y_1
        go_wp2_with fail
        refine bodyPost_ret (v := .tuple #[.agg #[.int .i64 0, .slice none 0 0, .slice none 0 0, .slice none 0 0, .int .i64 0, .int .i64 0, .int .u64 0], .int .i64 0, .int .i64 70]) ?_ rfl ⟨.inl ⟨70, by decide, rfl⟩, HF.out⟩
        simp [results, Try.results37, go_sem, z0, z1, z2, z3, z4, z5, z6, (show _ = _ from HK.out)]
      · have H2 := Lib.hid h2
        clear h2
        obtain ⟨hl, hhl⟩ : ∃ x, heldG g i s = x := ⟨_, rfl⟩
        rw [hhl] at HHE
        clear hhl
        rcases Decidable.em (hl = 0) with h3 | h3
        · subst h3
          go_enter Try.func37, Try.ntmps37
          go_upto_region 1 with fail
          generalize (((w.alloc (.cells #[.int .i64 g.number, .slice A g.accs.length c, .slice B g.lines.length c2, .slice C g.offers.length c3, .int .i64 g.next, .int .i64 g.fees, .int .u64 g.link] 30)).alloc (.cells #[.string (codeOf s), .int .i64 (issOf s)] 49)).alloc (.cells #[.string (codeOf b), .int .i64 (issOf b)] 49)).alloc (.cells #[.int .i64 0, .slice none 0 0, .slice none 0 0, .slice none 0 0, .int .i64 0, .int .i64 0, .int .u64 0] 30) = W0 at *
          obtain ⟨x_0, x_1, x_2, x_3, x_4, x_5, x_6, _⟩ := HX0.out
          obtain ⟨s_0, s_1, _⟩ := HS0.out
          obtain ⟨y_0, y_1, _⟩ := HY0.out
          go_wp2_with fail
          refine (HCK.out _ HL0.out).mono ?_
          rintro e w1 ⟨rfl, hb1⟩
          have HX1 := Lib.hid (HX0.out.below hb1)
          have HS1 := Lib.hid (HS0.out.below hb1)
          have HY1 := Lib.hid (HY0.out.below hb1)
          have HZ1 := Lib.hid (HZ0.out.below hb1)
          have HG1 := Lib.hid (HG0.out.below hb1)
          have HL1 := Lib.hid (HL0.out.below hb1)
          have HB1 := Lib.hid (bstep HB0.out hb1)
          clear x_0 x_1 x_2 x_3 x_4 x_5 x_6 s_0 s_1 y_0 y_1
          clear hb1
          obtain ⟨x_0, x_1, x_2, x_3, x_4, x_5, x_6, _⟩ := HX1.out
          obtain ⟨s_0, s_1, _⟩ := HS1.out
          obtain ⟨y_0, y_1, _⟩ := HY1.out
          go_wp2_with fail
          refine (HFD.out _ HL1.out).mono ?_
          rintro e w2 ⟨rfl, hb2⟩
          have HX2 := Lib.hid (HX1.out.below hb2)
          have HS2 := Lib.hid (HS1.out.below hb2)
          have HY2 := Lib.hid (HY1.out.below hb2)
          have HZ2 := Lib.hid (HZ1.out.below hb2)
          have HG2 := Lib.hid (HG1.out.below hb2)
          have HL2 := Lib.hid (HL1.out.below hb2)
          have HB2 := Lib.hid (bstep HB1.out hb2)
          clear x_0 x_1 x_2 x_3 x_4 x_5 x_6 s_0 s_1 y_0 y_1
          clear hb2
          rw [HXV.out, HHS.out]
          have HX3 := Lib.hid (HX2.out.alloc (.cells #[.int .i64 x0, .int .i64 x1, .int .i64 x2] 34))
          have HS3 := Lib.hid (HS2.out.alloc (.cells #[.int .i64 x0, .int .i64 x1, .int .i64 x2] 34))
          have HY3 := Lib.hid (HY2.out.alloc (.cells #[.int .i64 x0, .int .i64 x1, .int .i64 x2] 34))
          have HZ3 := Lib.hid (HZ2.out.alloc (.cells #[.int .i64 x0, .int .i64 x1, .int .i64 x2] 34))
          have HG3 := Lib.hid (HG2.out.alloc (.cells #[.int .i64 x0, .int .i64 x1, .int .i64 x2] 34))
          have HL3 := Lib.hid (HL2.out.alloc (.cells #[.int .i64 x0, .int .i64 x1, .int .i64 x2] 34))
          have HB3 := Lib.hid (balloc HB2.out (.cells #[.int .i64 x0, .int .i64 x1, .int .i64 x2] 34))
          go_upto_region 5 with fail
          generalize w2.alloc (.cells #[.int .i64 x0, .int .i64 x1, .int .i64 x2] 34) = W2 at *
          obtain ⟨x_0, x_1, x_2, x_3, x_4, x_5, x_6, _⟩ := HX3.out
          obtain ⟨s_0, s_1, _⟩ := HS3.out
          obtain ⟨y_0, y_1, _⟩ := HY3.out
          go_wp2_with fail
          refine (HAS.out _).mono ?_
          rintro e w4 ⟨rfl, hb4⟩
          have HX4 := Lib.hid (HX3.out.below hb4)
          have HS4 := Lib.hid (HS3.out.below hb4)
          have HY4 := Lib.hid (HY3.out.below hb4)
          have HZ4 := Lib.hid (HZ3.out.below hb4)
          have HG4 := Lib.hid (HG3.out.below hb4)
          have HL4 := Lib.hid (HL3.out.below hb4)
          have HB4 := Lib.hid (bstep HB3.out hb4)
          clear x_0 x_1 x_2 x_3 x_4 x_5 x_6 s_0 s_1 y_0 y_1
          clear hb4
          obtain ⟨x_0, x_1, x_2, x_3, x_4, x_5, x_6, _⟩ := HX4.out
          obtain ⟨s_0, s_1, _⟩ := HS4.out
          obtain ⟨y_0, y_1, _⟩ := HY4.out
          go_wp2_with fail
          refine (HAB.out _).mono ?_
          rintro e w5 ⟨rfl, hb5⟩
          have HX5 := Lib.hid (HX4.out.below hb5)
          have HS5 := Lib.hid (HS4.out.below hb5)
          have HY5 := Lib.hid (HY4.out.below hb5)
          have HZ5 := Lib.hid (HZ4.out.below hb5)
          have HG5 := Lib.hid (HG4.out.below hb5)
          have HL5 := Lib.hid (HL4.out.below hb5)
          have HB5 := Lib.hid (bstep HB4.out hb5)
          clear x_0 x_1 x_2 x_3 x_4 x_5 x_6 s_0 s_1 y_0 y_1
          clear hb5
          obtain ⟨x_0, x_1, x_2, x_3, x_4, x_5, x_6, _⟩ := HX5.out
          obtain ⟨s_0, s_1, _⟩ := HS5.out
          obtain ⟨y_0, y_1, _⟩ := HY5.out
          go_upto_region 9 with fail
          go_wp2_with (first | (go_at_call 67; refine (rvalid_any _ _).mono ?_; rintro e w2 ⟨rfl, rfl⟩) | (go_at_call 68; refine (rprice_any _ _ _).mono ?_; rintro e w2 ⟨rfl, rfl⟩))
          refine (HO1.out _ HL5.out).mono ?_
          rintro e w6 ⟨rfl, hb6⟩
          have HX6 := Lib.hid (HX5.out.below hb6)
          have HS6 := Lib.hid (HS5.out.below hb6)
          have HY6 := Lib.hid (HY5.out.below hb6)
          have HZ6 := Lib.hid (HZ5.out.below hb6)
          have HG6 := Lib.hid (HG5.out.below hb6)
          have HL6 := Lib.hid (HL5.out.below hb6)
          have HB6 := Lib.hid (bstep HB5.out hb6)
          clear x_0 x_1 x_2 x_3 x_4 x_5 x_6 s_0 s_1 y_0 y_1
          clear hb6
          obtain ⟨x_0, x_1, x_2, x_3, x_4, x_5, x_6, _⟩ := HX6.out
          obtain ⟨s_0, s_1, _⟩ := HS6.out
          obtain ⟨y_0, y_1, _⟩ := HY6.out
          rw [H1.out]
          go_wp2_with fail
          refine (HO2.out _ HL6.out).mono ?_
          rintro e w7 ⟨rfl, hb7⟩
          have HX7 := Lib.hid (HX6.out.below hb7)
          have HS7 := Lib.hid (HS6.out.below hb7)
          have HY7 := Lib.hid (HY6.out.below hb7)
          have HZ7 := Lib.hid (HZ6.out.below hb7)
          have HG7 := Lib.hid (HG6.out.below hb7)
          have HL7 := Lib.hid (HL6.out.below hb7)
          have HB7 := Lib.hid (bstep HB6.out hb7)
          clear x_0 x_1 x_2 x_3 x_4 x_5 x_6 s_0 s_1 y_0 y_1
          clear hb7
          obtain ⟨x_0, x_1, x_2, x_3, x_4, x_5, x_6, _⟩ := HX7.out
          obtain ⟨s_0, s_1, _⟩ := HS7.out
          obtain ⟨y_0, y_1, _⟩ := HY7.out
          rw [H2.out]
          go_wp2_with fail
          refine (HHE.out _ HL7.out).mono ?_
          rintro e w8 ⟨rfl, hb8⟩
          have HX8 := Lib.hid (HX7.out.below hb8)
          have HS8 := Lib.hid (HS7.out.below hb8)
          have HY8 := Lib.hid (HY7.out.below hb8)
          have HZ8 := Lib.hid (HZ7.out.below hb8)
          have HG8 := Lib.hid (HG7.out.below hb8)
          have HL8 := Lib.hid (HL7.out.below hb8)
          have HB8 := Lib.hid (bstep HB7.out hb8)
          clear x_0 x_1 x_2 x_3 x_4 x_5 x_6 s_0 s_1 y_0 y_1
          clear hb8
          obtain ⟨x_0, x_1, x_2, x_3, x_4, x_5, x_6, _⟩ := HX8.out
          obtain ⟨s_0, s_1, _⟩ := HS8.out
          obtain ⟨y_0, y_1, _⟩ := HY8.out
          go_upto_region 14 with fail
          have HK := Lib.hid HZ8.out
          obtain ⟨z0, z1, z2, z3, z4, z5, z6, _⟩ := HZ8.out.cs7
          have f0 := HZ8.out.fr 0
          have f1 := HZ8.out.fr 1
          have f2 := HZ8.out.fr 2
          have f3 := HZ8.out.fr 3
          have f4 := HZ8.out.fr 4
          have f5 := HZ8.out.fr 5
          have f6 := HZ8.out.fr 6
          have HF := Lib.hid (bset (bset (bset (bset (bset (bset (bset (HB8.out) (p := ⟨w.heap.size + 1 + 1 + 1, 0, none⟩) (by show w.heap.size ≤ w.heap.size + 1 + 1 + 1; omega) (.int .i64 0)) (p := ⟨w.heap.size + 1 + 1 + 1, 1, none⟩) (by show w.heap.size ≤ w.heap.size + 1 + 1 + 1; omega) (.slice none 0 0)) (p := ⟨w.heap.size + 1 + 1 + 1, 2, none⟩) (by show w.heap.size ≤ w.heap.size + 1 + 1 + 1; omega) (.slice none 0 0)) (p := ⟨w.heap.size + 1 + 1 + 1, 3, none⟩) (by show w.heap.size ≤ w.heap.size + 1 + 1 + 1; omega) (.slice none 0 0)) (p := ⟨w.heap.size + 1 + 1 + 1, 4, none⟩) (by show w.heap.size ≤ w.heap.size + 1 + 1 + 1; omega) (.int .i64 0)) (p := ⟨w.heap.size + 1 + 1 + 1, 5, none⟩) (by show w.heap.size ≤ w.heap.size + 1 + 1 + 1; omega) (.int .i64 0)) (p := ⟨w.heap.size + 1 + 1 + 1, 6, none⟩) (by show w.heap.size ≤ w.heap.size + 1 + 1 + 1; omega) (.int .u64 0))
          clear x_0 x_1 x_2 x_3 x_4 x_5 x_6 s_0 s_1 y_0 y_1
          go_wp2_with fail
          refine bodyPost_ret (v := .tuple #[.agg #[.int .i64 0, .slice none 0 0, .slice none 0 0, .slice none 0 0, .int .i64 0, .int .i64 0, .int .u64 0], .int .i64 0, .int .i64 66]) ?_ rfl ⟨.inl ⟨66, by decide, rfl⟩, HF.out⟩
          simp [results, Try.results37, go_sem, z0, z1, z2, z3, z4, z5, z6, (show _ = _ from HK.out)]
        · have q1 : (hl == 0) = false := by simpa using h3
          clear h3
          rcases Decidable.em (g.offers.length = 40) with h4 | h4
          · have q2 : (((g.offers.length : Nat) : Int) == 40) = true := by rw [h4]; rfl
            clear h4
            go_enter Try.func37, Try.ntmps37
            go_upto_region 1 with fail
            generalize (((w.alloc (.cells #[.int .i64 g.number, .slice A g.accs.length c, .slice B g.lines.length c2, .slice C g.offers.length c3, .int .i64 g.next, .int .i64 g.fees, .int .u64 g.link] 30)).alloc (.cells #[.string (codeOf s), .int .i64 (issOf s)] 49)).alloc (.cells #[.string (codeOf b), .int .i64 (issOf b)] 49)).alloc (.cells #[.int .i64 0, .slice none 0 0, .slice none 0 0, .slice none 0 0, .int .i64 0, .int .i64 0, .int .u64 0] 30) = W0 at *
            obtain ⟨x_0, x_1, x_2, x_3, x_4, x_5, x_6, _⟩ := HX0.out
            obtain ⟨s_0, s_1, _⟩ := HS0.out
            obtain ⟨y_0, y_1, _⟩ := HY0.out
            go_wp2_with fail
            refine (HCK.out _ HL0.out).mono ?_
            rintro e w1 ⟨rfl, hb1⟩
            have HX1 := Lib.hid (HX0.out.below hb1)
            have HS1 := Lib.hid (HS0.out.below hb1)
            have HY1 := Lib.hid (HY0.out.below hb1)
            have HZ1 := Lib.hid (HZ0.out.below hb1)
            have HG1 := Lib.hid (HG0.out.below hb1)
            have HL1 := Lib.hid (HL0.out.below hb1)
            have HB1 := Lib.hid (bstep HB0.out hb1)
            clear x_0 x_1 x_2 x_3 x_4 x_5 x_6 s_0 s_1 y_0 y_1
            clear hb1
            obtain ⟨x_0, x_1, x_2, x_3, x_4, x_5, x_6, _⟩ := HX1.out
            obtain ⟨s_0, s_1, _⟩ := HS1.out
            obtain ⟨y_0, y_1, _⟩ := HY1.out
            go_wp2_with fail
            refine (HFD.out _ HL1.out).mono ?_
            rintro e w2 ⟨rfl, hb2⟩
            have HX2 := Lib.hid (HX1.out.below hb2)
            have HS2 := Lib.hid (HS1.out.below hb2)
            have HY2 := Lib.hid (HY1.out.below hb2)
            have HZ2 := Lib.hid (HZ1.out.below hb2)
            have HG2 := Lib.hid (HG1.out.below hb2)
            have HL2 := Lib.hid (HL1.out.below hb2)
            have HB2 := Lib.hid (bstep HB1.out hb2)
            clear x_0 x_1 x_2 x_3 x_4 x_5 x_6 s_0 s_1 y_0 y_1
            clear hb2
            rw [HXV.out, HHS.out]
            have HX3 := Lib.hid (HX2.out.alloc (.cells #[.int .i64 x0, .int .i64 x1, .int .i64 x2] 34))
            have HS3 := Lib.hid (HS2.out.alloc (.cells #[.int .i64 x0, .int .i64 x1, .int .i64 x2] 34))
            have HY3 := Lib.hid (HY2.out.alloc (.cells #[.int .i64 x0, .int .i64 x1, .int .i64 x2] 34))
            have HZ3 := Lib.hid (HZ2.out.alloc (.cells #[.int .i64 x0, .int .i64 x1, .int .i64 x2] 34))
            have HG3 := Lib.hid (HG2.out.alloc (.cells #[.int .i64 x0, .int .i64 x1, .int .i64 x2] 34))
            have HL3 := Lib.hid (HL2.out.alloc (.cells #[.int .i64 x0, .int .i64 x1, .int .i64 x2] 34))
            have HB3 := Lib.hid (balloc HB2.out (.cells #[.int .i64 x0, .int .i64 x1, .int .i64 x2] 34))
            go_upto_region 5 with fail
            generalize w2.alloc (.cells #[.int .i64 x0, .int .i64 x1, .int .i64 x2] 34) = W2 at *
            obtain ⟨x_0, x_1, x_2, x_3, x_4, x_5, x_6, _⟩ := HX3.out
            obtain ⟨s_0, s_1, _⟩ := HS3.out
            obtain ⟨y_0, y_1, _⟩ := HY3.out
            go_wp2_with fail
            refine (HAS.out _).mono ?_
            rintro e w4 ⟨rfl, hb4⟩
            have HX4 := Lib.hid (HX3.out.below hb4)
            have HS4 := Lib.hid (HS3.out.below hb4)
            have HY4 := Lib.hid (HY3.out.below hb4)
            have HZ4 := Lib.hid (HZ3.out.below hb4)
            have HG4 := Lib.hid (HG3.out.below hb4)
            have HL4 := Lib.hid (HL3.out.below hb4)
            have HB4 := Lib.hid (bstep HB3.out hb4)
            clear x_0 x_1 x_2 x_3 x_4 x_5 x_6 s_0 s_1 y_0 y_1
            clear hb4
            obtain ⟨x_0, x_1, x_2, x_3, x_4, x_5, x_6, _⟩ := HX4.out
            obtain ⟨s_0, s_1, _⟩ := HS4.out
            obtain ⟨y_0, y_1, _⟩ := HY4.out
            go_wp2_with fail
            refine (HAB.out _).mono ?_
            rintro e w5 ⟨rfl, hb5⟩
            have HX5 := Lib.hid (HX4.out.below hb5)
            have HS5 := Lib.hid (HS4.out.below hb5)
            have HY5 := Lib.hid (HY4.out.below hb5)
            have HZ5 := Lib.hid (HZ4.out.below hb5)
            have HG5 := Lib.hid (HG4.out.below hb5)
            have HL5 := Lib.hid (HL4.out.below hb5)
            have HB5 := Lib.hid (bstep HB4.out hb5)
            clear x_0 x_1 x_2 x_3 x_4 x_5 x_6 s_0 s_1 y_0 y_1
            clear hb5
            obtain ⟨x_0, x_1, x_2, x_3, x_4, x_5, x_6, _⟩ := HX5.out
            obtain ⟨s_0, s_1, _⟩ := HS5.out
            obtain ⟨y_0, y_1, _⟩ := HY5.out
            go_upto_region 9 with fail
            go_wp2_with (first | (go_at_call 67; refine (rvalid_any _ _).mono ?_; rintro e w2 ⟨rfl, rfl⟩) | (go_at_call 68; refine (rprice_any _ _ _).mono ?_; rintro e w2 ⟨rfl, rfl⟩))
            refine (HO1.out _ HL5.out).mono ?_
            rintro e w6 ⟨rfl, hb6⟩
            have HX6 := Lib.hid (HX5.out.below hb6)
            have HS6 := Lib.hid (HS5.out.below hb6)
            have HY6 := Lib.hid (HY5.out.below hb6)
            have HZ6 := Lib.hid (HZ5.out.below hb6)
            have HG6 := Lib.hid (HG5.out.below hb6)
            have HL6 := Lib.hid (HL5.out.below hb6)
            have HB6 := Lib.hid (bstep HB5.out hb6)
            clear x_0 x_1 x_2 x_3 x_4 x_5 x_6 s_0 s_1 y_0 y_1
            clear hb6
            obtain ⟨x_0, x_1, x_2, x_3, x_4, x_5, x_6, _⟩ := HX6.out
            obtain ⟨s_0, s_1, _⟩ := HS6.out
            obtain ⟨y_0, y_1, _⟩ := HY6.out
            rw [H1.out]
            go_wp2_with fail
            refine (HO2.out _ HL6.out).mono ?_
            rintro e w7 ⟨rfl, hb7⟩
            have HX7 := Lib.hid (HX6.out.below hb7)
            have HS7 := Lib.hid (HS6.out.below hb7)
            have HY7 := Lib.hid (HY6.out.below hb7)
            have HZ7 := Lib.hid (HZ6.out.below hb7)
            have HG7 := Lib.hid (HG6.out.below hb7)
            have HL7 := Lib.hid (HL6.out.below hb7)
            have HB7 := Lib.hid (bstep HB6.out hb7)
            clear x_0 x_1 x_2 x_3 x_4 x_5 x_6 s_0 s_1 y_0 y_1
            clear hb7
            obtain ⟨x_0, x_1, x_2, x_3, x_4, x_5, x_6, _⟩ := HX7.out
            obtain ⟨s_0, s_1, _⟩ := HS7.out
            obtain ⟨y_0, y_1, _⟩ := HY7.out
            rw [H2.out]
            go_wp2_with fail
            refine (HHE.out _ HL7.out).mono ?_
            rintro e w8 ⟨rfl, hb8⟩
            have HX8 := Lib.hid (HX7.out.below hb8)
            have HS8 := Lib.hid (HS7.out.below hb8)
            have HY8 := Lib.hid (HY7.out.below hb8)
            have HZ8 := Lib.hid (HZ7.out.below hb8)
            have HG8 := Lib.hid (HG7.out.below hb8)
            have HL8 := Lib.hid (HL7.out.below hb8)
            have HB8 := Lib.hid (bstep HB7.out hb8)
            clear x_0 x_1 x_2 x_3 x_4 x_5 x_6 s_0 s_1 y_0 y_1
            clear hb8
            obtain ⟨x_0, x_1, x_2, x_3, x_4, x_5, x_6, _⟩ := HX8.out
            obtain ⟨s_0, s_1, _⟩ := HS8.out
            obtain ⟨y_0, y_1, _⟩ := HY8.out
            go_upto_region 16 with fail
            have HK := Lib.hid HZ8.out
            obtain ⟨z0, z1, z2, z3, z4, z5, z6, _⟩ := HZ8.out.cs7
            have f0 := HZ8.out.fr 0
            have f1 := HZ8.out.fr 1
            have f2 := HZ8.out.fr 2
            have f3 := HZ8.out.fr 3
            have f4 := HZ8.out.fr 4
            have f5 := HZ8.out.fr 5
            have f6 := HZ8.out.fr 6
            have HF := Lib.hid (bset (bset (bset (bset (bset (bset (bset (HB8.out) (p := ⟨w.heap.size + 1 + 1 + 1, 0, none⟩) (by show w.heap.size ≤ w.heap.size + 1 + 1 + 1; omega) (.int .i64 0)) (p := ⟨w.heap.size + 1 + 1 + 1, 1, none⟩) (by show w.heap.size ≤ w.heap.size + 1 + 1 + 1; omega) (.slice none 0 0)) (p := ⟨w.heap.size + 1 + 1 + 1, 2, none⟩) (by show w.heap.size ≤ w.heap.size + 1 + 1 + 1; omega) (.slice none 0 0)) (p := ⟨w.heap.size + 1 + 1 + 1, 3, none⟩) (by show w.heap.size ≤ w.heap.size + 1 + 1 + 1; omega) (.slice none 0 0)) (p := ⟨w.heap.size + 1 + 1 + 1, 4, none⟩) (by show w.heap.size ≤ w.heap.size + 1 + 1 + 1; omega) (.int .i64 0)) (p := ⟨w.heap.size + 1 + 1 + 1, 5, none⟩) (by show w.heap.size ≤ w.heap.size + 1 + 1 + 1; omega) (.int .i64 0)) (p := ⟨w.heap.size + 1 + 1 + 1, 6, none⟩) (by show w.heap.size ≤ w.heap.size + 1 + 1 + 1; omega) (.int .u64 0))
            clear x_0 x_1 x_2 x_3 x_4 x_5 x_6 s_0 s_1 y_0 y_1
            go_wp2_with fail
            refine bodyPost_ret (v := .tuple #[.agg #[.int .i64 0, .slice none 0 0, .slice none 0 0, .slice none 0 0, .int .i64 0, .int .i64 0, .int .u64 0], .int .i64 0, .int .i64 3]) ?_ rfl ⟨.inl ⟨3, by decide, rfl⟩, HF.out⟩
            simp [results, Try.results37, go_sem, z0, z1, z2, z3, z4, z5, z6, (show _ = _ from HK.out)]
          · have q2 : (((g.offers.length : Nat) : Int) == 40) = false := by simp; omega
            have H4 := Lib.hid h4
            clear h4
            rcases Decidable.em (g.next = 1000000) with h5 | h5
            · have q3 : (g.next == 1000000) = true := by simpa using h5
              clear h5
              go_enter Try.func37, Try.ntmps37
              go_upto_region 1 with fail
              generalize (((w.alloc (.cells #[.int .i64 g.number, .slice A g.accs.length c, .slice B g.lines.length c2, .slice C g.offers.length c3, .int .i64 g.next, .int .i64 g.fees, .int .u64 g.link] 30)).alloc (.cells #[.string (codeOf s), .int .i64 (issOf s)] 49)).alloc (.cells #[.string (codeOf b), .int .i64 (issOf b)] 49)).alloc (.cells #[.int .i64 0, .slice none 0 0, .slice none 0 0, .slice none 0 0, .int .i64 0, .int .i64 0, .int .u64 0] 30) = W0 at *
              obtain ⟨x_0, x_1, x_2, x_3, x_4, x_5, x_6, _⟩ := HX0.out
              obtain ⟨s_0, s_1, _⟩ := HS0.out
              obtain ⟨y_0, y_1, _⟩ := HY0.out
              go_wp2_with fail
              refine (HCK.out _ HL0.out).mono ?_
              rintro e w1 ⟨rfl, hb1⟩
              have HX1 := Lib.hid (HX0.out.below hb1)
              have HS1 := Lib.hid (HS0.out.below hb1)
              have HY1 := Lib.hid (HY0.out.below hb1)
              have HZ1 := Lib.hid (HZ0.out.below hb1)
              have HG1 := Lib.hid (HG0.out.below hb1)
              have HL1 := Lib.hid (HL0.out.below hb1)
              have HB1 := Lib.hid (bstep HB0.out hb1)
              clear x_0 x_1 x_2 x_3 x_4 x_5 x_6 s_0 s_1 y_0 y_1
              clear hb1
              obtain ⟨x_0, x_1, x_2, x_3, x_4, x_5, x_6, _⟩ := HX1.out
              obtain ⟨s_0, s_1, _⟩ := HS1.out
              obtain ⟨y_0, y_1, _⟩ := HY1.out
              go_wp2_with fail
              refine (HFD.out _ HL1.out).mono ?_
              rintro e w2 ⟨rfl, hb2⟩
              have HX2 := Lib.hid (HX1.out.below hb2)
              have HS2 := Lib.hid (HS1.out.below hb2)
              have HY2 := Lib.hid (HY1.out.below hb2)
              have HZ2 := Lib.hid (HZ1.out.below hb2)
              have HG2 := Lib.hid (HG1.out.below hb2)
              have HL2 := Lib.hid (HL1.out.below hb2)
              have HB2 := Lib.hid (bstep HB1.out hb2)
              clear x_0 x_1 x_2 x_3 x_4 x_5 x_6 s_0 s_1 y_0 y_1
              clear hb2
              rw [HXV.out, HHS.out]
              have HX3 := Lib.hid (HX2.out.alloc (.cells #[.int .i64 x0, .int .i64 x1, .int .i64 x2] 34))
              have HS3 := Lib.hid (HS2.out.alloc (.cells #[.int .i64 x0, .int .i64 x1, .int .i64 x2] 34))
              have HY3 := Lib.hid (HY2.out.alloc (.cells #[.int .i64 x0, .int .i64 x1, .int .i64 x2] 34))
              have HZ3 := Lib.hid (HZ2.out.alloc (.cells #[.int .i64 x0, .int .i64 x1, .int .i64 x2] 34))
              have HG3 := Lib.hid (HG2.out.alloc (.cells #[.int .i64 x0, .int .i64 x1, .int .i64 x2] 34))
              have HL3 := Lib.hid (HL2.out.alloc (.cells #[.int .i64 x0, .int .i64 x1, .int .i64 x2] 34))
              have HB3 := Lib.hid (balloc HB2.out (.cells #[.int .i64 x0, .int .i64 x1, .int .i64 x2] 34))
              go_upto_region 5 with fail
              generalize w2.alloc (.cells #[.int .i64 x0, .int .i64 x1, .int .i64 x2] 34) = W2 at *
              obtain ⟨x_0, x_1, x_2, x_3, x_4, x_5, x_6, _⟩ := HX3.out
              obtain ⟨s_0, s_1, _⟩ := HS3.out
              obtain ⟨y_0, y_1, _⟩ := HY3.out
              go_wp2_with fail
              refine (HAS.out _).mono ?_
              rintro e w4 ⟨rfl, hb4⟩
              have HX4 := Lib.hid (HX3.out.below hb4)
              have HS4 := Lib.hid (HS3.out.below hb4)
              have HY4 := Lib.hid (HY3.out.below hb4)
              have HZ4 := Lib.hid (HZ3.out.below hb4)
              have HG4 := Lib.hid (HG3.out.below hb4)
              have HL4 := Lib.hid (HL3.out.below hb4)
              have HB4 := Lib.hid (bstep HB3.out hb4)
              clear x_0 x_1 x_2 x_3 x_4 x_5 x_6 s_0 s_1 y_0 y_1
              clear hb4
              obtain ⟨x_0, x_1, x_2, x_3, x_4, x_5, x_6, _⟩ := HX4.out
              obtain ⟨s_0, s_1, _⟩ := HS4.out
              obtain ⟨y_0, y_1, _⟩ := HY4.out
              go_wp2_with fail
              refine (HAB.out _).mono ?_
              rintro e w5 ⟨rfl, hb5⟩
              have HX5 := Lib.hid (HX4.out.below hb5)
              have HS5 := Lib.hid (HS4.out.below hb5)
              have HY5 := Lib.hid (HY4.out.below hb5)
              have HZ5 := Lib.hid (HZ4.out.below hb5)
              have HG5 := Lib.hid (HG4.out.below hb5)
              have HL5 := Lib.hid (HL4.out.below hb5)
              have HB5 := Lib.hid (bstep HB4.out hb5)
              clear x_0 x_1 x_2 x_3 x_4 x_5 x_6 s_0 s_1 y_0 y_1
              clear hb5
              obtain ⟨x_0, x_1, x_2, x_3, x_4, x_5, x_6, _⟩ := HX5.out
              obtain ⟨s_0, s_1, _⟩ := HS5.out
              obtain ⟨y_0, y_1, _⟩ := HY5.out
              go_upto_region 9 with fail
              go_wp2_with (first | (go_at_call 67; refine (rvalid_any _ _).mono ?_; rintro e w2 ⟨rfl, rfl⟩) | (go_at_call 68; refine (rprice_any _ _ _).mono ?_; rintro e w2 ⟨rfl, rfl⟩))
              refine (HO1.out _ HL5.out).mono ?_
              rintro e w6 ⟨rfl, hb6⟩
              have HX6 := Lib.hid (HX5.out.below hb6)
              have HS6 := Lib.hid (HS5.out.below hb6)
              have HY6 := Lib.hid (HY5.out.below hb6)
              have HZ6 := Lib.hid (HZ5.out.below hb6)
              have HG6 := Lib.hid (HG5.out.below hb6)
              have HL6 := Lib.hid (HL5.out.below hb6)
              have HB6 := Lib.hid (bstep HB5.out hb6)
              clear x_0 x_1 x_2 x_3 x_4 x_5 x_6 s_0 s_1 y_0 y_1
              clear hb6
              obtain ⟨x_0, x_1, x_2, x_3, x_4, x_5, x_6, _⟩ := HX6.out
              obtain ⟨s_0, s_1, _⟩ := HS6.out
              obtain ⟨y_0, y_1, _⟩ := HY6.out
              rw [H1.out]
              go_wp2_with fail
              refine (HO2.out _ HL6.out).mono ?_
              rintro e w7 ⟨rfl, hb7⟩
              have HX7 := Lib.hid (HX6.out.below hb7)
              have HS7 := Lib.hid (HS6.out.below hb7)
              have HY7 := Lib.hid (HY6.out.below hb7)
              have HZ7 := Lib.hid (HZ6.out.below hb7)
              have HG7 := Lib.hid (HG6.out.below hb7)
              have HL7 := Lib.hid (HL6.out.below hb7)
              have HB7 := Lib.hid (bstep HB6.out hb7)
              clear x_0 x_1 x_2 x_3 x_4 x_5 x_6 s_0 s_1 y_0 y_1
              clear hb7
              obtain ⟨x_0, x_1, x_2, x_3, x_4, x_5, x_6, _⟩ := HX7.out
              obtain ⟨s_0, s_1, _⟩ := HS7.out
              obtain ⟨y_0, y_1, _⟩ := HY7.out
              rw [H2.out]
              go_wp2_with fail
              refine (HHE.out _ HL7.out).mono ?_
              rintro e w8 ⟨rfl, hb8⟩
              have HX8 := Lib.hid (HX7.out.below hb8)
              have HS8 := Lib.hid (HS7.out.below hb8)
              have HY8 := Lib.hid (HY7.out.below hb8)
              have HZ8 := Lib.hid (HZ7.out.below hb8)
              have HG8 := Lib.hid (HG7.out.below hb8)
              have HL8 := Lib.hid (HL7.out.below hb8)
              have HB8 := Lib.hid (bstep HB7.out hb8)
              clear x_0 x_1 x_2 x_3 x_4 x_5 x_6 s_0 s_1 y_0 y_1
              clear hb8
              obtain ⟨x_0, x_1, x_2, x_3, x_4, x_5, x_6, _⟩ := HX8.out
              obtain ⟨s_0, s_1, _⟩ := HS8.out
              obtain ⟨y_0, y_1, _⟩ := HY8.out
              go_upto_region 16 with fail
              have HK := Lib.hid HZ8.out
              obtain ⟨z0, z1, z2, z3, z4, z5, z6, _⟩ := HZ8.out.cs7
              have f0 := HZ8.out.fr 0
              have f1 := HZ8.out.fr 1
              have f2 := HZ8.out.fr 2
              have f3 := HZ8.out.fr 3
              have f4 := HZ8.out.fr 4
              have f5 := HZ8.out.fr 5
              have f6 := HZ8.out.fr 6
              have HF := Lib.hid (bset (bset (bset (bset (bset (bset (bset (HB8.out) (p := ⟨w.heap.size + 1 + 1 + 1, 0, none⟩) (by show w.heap.size ≤ w.heap.size + 1 + 1 + 1; omega) (.int .i64 0)) (p := ⟨w.heap.size + 1 + 1 + 1, 1, none⟩) (by show w.heap.size ≤ w.heap.size + 1 + 1 + 1; omega) (.slice none 0 0)) (p := ⟨w.heap.size + 1 + 1 + 1, 2, none⟩) (by show w.heap.size ≤ w.heap.size + 1 + 1 + 1; omega) (.slice none 0 0)) (p := ⟨w.heap.size + 1 + 1 + 1, 3, none⟩) (by show w.heap.size ≤ w.heap.size + 1 + 1 + 1; omega) (.slice none 0 0)) (p := ⟨w.heap.size + 1 + 1 + 1, 4, none⟩) (by show w.heap.size ≤ w.heap.size + 1 + 1 + 1; omega) (.int .i64 0)) (p := ⟨w.heap.size + 1 + 1 + 1, 5, none⟩) (by show w.heap.size ≤ w.heap.size + 1 + 1 + 1; omega) (.int .i64 0)) (p := ⟨w.heap.size + 1 + 1 + 1, 6, none⟩) (by show w.heap.size ≤ w.heap.size + 1 + 1 + 1; omega) (.int .u64 0))
              clear x_0 x_1 x_2 x_3 x_4 x_5 x_6 s_0 s_1 y_0 y_1
              go_wp2_with fail
              refine bodyPost_ret (v := .tuple #[.agg #[.int .i64 0, .slice none 0 0, .slice none 0 0, .slice none 0 0, .int .i64 0, .int .i64 0, .int .u64 0], .int .i64 0, .int .i64 3]) ?_ rfl ⟨.inl ⟨3, by decide, rfl⟩, HF.out⟩
              simp [results, Try.results37, go_sem, z0, z1, z2, z3, z4, z5, z6, (show _ = _ from HK.out)]
            · have q3 : (g.next == 1000000) = false := by simpa using h5
              have H5 := Lib.hid h5
              clear h5
              go_enter Try.func37, Try.ntmps37
              go_upto_region 1 with fail
              generalize (((w.alloc (.cells #[.int .i64 g.number, .slice A g.accs.length c, .slice B g.lines.length c2, .slice C g.offers.length c3, .int .i64 g.next, .int .i64 g.fees, .int .u64 g.link] 30)).alloc (.cells #[.string (codeOf s), .int .i64 (issOf s)] 49)).alloc (.cells #[.string (codeOf b), .int .i64 (issOf b)] 49)).alloc (.cells #[.int .i64 0, .slice none 0 0, .slice none 0 0, .slice none 0 0, .int .i64 0, .int .i64 0, .int .u64 0] 30) = W0 at *
              obtain ⟨x_0, x_1, x_2, x_3, x_4, x_5, x_6, _⟩ := HX0.out
              obtain ⟨s_0, s_1, _⟩ := HS0.out
              obtain ⟨y_0, y_1, _⟩ := HY0.out
              go_wp2_with fail
              refine (HCK.out _ HL0.out).mono ?_
              rintro e w1 ⟨rfl, hb1⟩
              have HX1 := Lib.hid (HX0.out.below hb1)
              have HS1 := Lib.hid (HS0.out.below hb1)
              have HY1 := Lib.hid (HY0.out.below hb1)
              have HZ1 := Lib.hid (HZ0.out.below hb1)
              have HG1 := Lib.hid (HG0.out.below hb1)
              have HL1 := Lib.hid (HL0.out.below hb1)
              have HB1 := Lib.hid (bstep HB0.out hb1)
              clear x_0 x_1 x_2 x_3 x_4 x_5 x_6 s_0 s_1 y_0 y_1
              clear hb1
              obtain ⟨x_0, x_1, x_2, x_3, x_4, x_5, x_6, _⟩ := HX1.out
              obtain ⟨s_0, s_1, _⟩ := HS1.out
              obtain ⟨y_0, y_1, _⟩ := HY1.out
              go_wp2_with fail
              refine (HFD.out _ HL1.out).mono ?_
              rintro e w2 ⟨rfl, hb2⟩
              have HX2 := Lib.hid (HX1.out.below hb2)
              have HS2 := Lib.hid (HS1.out.below hb2)
              have HY2 := Lib.hid (HY1.out.below hb2)
              have HZ2 := Lib.hid (HZ1.out.below hb2)
              have HG2 := Lib.hid (HG1.out.below hb2)
              have HL2 := Lib.hid (HL1.out.below hb2)
              have HB2 := Lib.hid (bstep HB1.out hb2)
              clear x_0 x_1 x_2 x_3 x_4 x_5 x_6 s_0 s_1 y_0 y_1
              clear hb2
              rw [HXV.out, HHS.out]
              have HX3 := Lib.hid (HX2.out.alloc (.cells #[.int .i64 x0, .int .i64 x1, .int .i64 x2] 34))
              have HS3 := Lib.hid (HS2.out.alloc (.cells #[.int .i64 x0, .int .i64 x1, .int .i64 x2] 34))
              have HY3 := Lib.hid (HY2.out.alloc (.cells #[.int .i64 x0, .int .i64 x1, .int .i64 x2] 34))
              have HZ3 := Lib.hid (HZ2.out.alloc (.cells #[.int .i64 x0, .int .i64 x1, .int .i64 x2] 34))
              have HG3 := Lib.hid (HG2.out.alloc (.cells #[.int .i64 x0, .int .i64 x1, .int .i64 x2] 34))
              have HL3 := Lib.hid (HL2.out.alloc (.cells #[.int .i64 x0, .int .i64 x1, .int .i64 x2] 34))
              have HB3 := Lib.hid (balloc HB2.out (.cells #[.int .i64 x0, .int .i64 x1, .int .i64 x2] 34))
              go_upto_region 5 with fail
              generalize w2.alloc (.cells #[.int .i64 x0, .int .i64 x1, .int .i64 x2] 34) = W2 at *
              obtain ⟨x_0, x_1, x_2, x_3, x_4, x_5, x_6, _⟩ := HX3.out
              obtain ⟨s_0, s_1, _⟩ := HS3.out
              obtain ⟨y_0, y_1, _⟩ := HY3.out
              go_wp2_with fail
              refine (HAS.out _).mono ?_
              rintro e w4 ⟨rfl, hb4⟩
              have HX4 := Lib.hid (HX3.out.below hb4)
              have HS4 := Lib.hid (HS3.out.below hb4)
              have HY4 := Lib.hid (HY3.out.below hb4)
              have HZ4 := Lib.hid (HZ3.out.below hb4)
              have HG4 := Lib.hid (HG3.out.below hb4)
              have HL4 := Lib.hid (HL3.out.below hb4)
              have HB4 := Lib.hid (bstep HB3.out hb4)
              clear x_0 x_1 x_2 x_3 x_4 x_5 x_6 s_0 s_1 y_0 y_1
              clear hb4
              obtain ⟨x_0, x_1, x_2, x_3, x_4, x_5, x_6, _⟩ := HX4.out
              obtain ⟨s_0, s_1, _⟩ := HS4.out
              obtain ⟨y_0, y_1, _⟩ := HY4.out
              go_wp2_with fail
              refine (HAB.out _).mono ?_
              rintro e w5 ⟨rfl, hb5⟩
              have HX5 := Lib.hid (HX4.out.below hb5)
              have HS5 := Lib.hid (HS4.out.below hb5)
              have HY5 := Lib.hid (HY4.out.below hb5)
              have HZ5 := Lib.hid (HZ4.out.below hb5)
              have HG5 := Lib.hid (HG4.out.below hb5)
              have HL5 := Lib.hid (HL4.out.below hb5)
              have HB5 := Lib.hid (bstep HB4.out hb5)
              clear x_0 x_1 x_2 x_3 x_4 x_5 x_6 s_0 s_1 y_0 y_1
              clear hb5
              obtain ⟨x_0, x_1, x_2, x_3, x_4, x_5, x_6, _⟩ := HX5.out
              obtain ⟨s_0, s_1, _⟩ := HS5.out
              obtain ⟨y_0, y_1, _⟩ := HY5.out
              go_upto_region 9 with fail
              go_wp2_with (first | (go_at_call 67; refine (rvalid_any _ _).mono ?_; rintro e w2 ⟨rfl, rfl⟩) | (go_at_call 68; refine (rprice_any _ _ _).mono ?_; rintro e w2 ⟨rfl, rfl⟩))
              refine (HO1.out _ HL5.out).mono ?_
              rintro e w6 ⟨rfl, hb6⟩
              have HX6 := Lib.hid (HX5.out.below hb6)
              have HS6 := Lib.hid (HS5.out.below hb6)
              have HY6 := Lib.hid (HY5.out.below hb6)
              have HZ6 := Lib.hid (HZ5.out.below hb6)
              have HG6 := Lib.hid (HG5.out.below hb6)
              have HL6 := Lib.hid (HL5.out.below hb6)
              have HB6 := Lib.hid (bstep HB5.out hb6)
              clear x_0 x_1 x_2 x_3 x_4 x_5 x_6 s_0 s_1 y_0 y_1
              clear hb6
              obtain ⟨x_0, x_1, x_2, x_3, x_4, x_5, x_6, _⟩ := HX6.out
              obtain ⟨s_0, s_1, _⟩ := HS6.out
              obtain ⟨y_0, y_1, _⟩ := HY6.out
              rw [H1.out]
              go_wp2_with fail
              refine (HO2.out _ HL6.out).mono ?_
              rintro e w7 ⟨rfl, hb7⟩
              have HX7 := Lib.hid (HX6.out.below hb7)
              have HS7 := Lib.hid (HS6.out.below hb7)
              have HY7 := Lib.hid (HY6.out.below hb7)
              have HZ7 := Lib.hid (HZ6.out.below hb7)
              have HG7 := Lib.hid (HG6.out.below hb7)
              have HL7 := Lib.hid (HL6.out.below hb7)
              have HB7 := Lib.hid (bstep HB6.out hb7)
              clear x_0 x_1 x_2 x_3 x_4 x_5 x_6 s_0 s_1 y_0 y_1
              clear hb7
              obtain ⟨x_0, x_1, x_2, x_3, x_4, x_5, x_6, _⟩ := HX7.out
              obtain ⟨s_0, s_1, _⟩ := HS7.out
              obtain ⟨y_0, y_1, _⟩ := HY7.out
              rw [H2.out]
              go_wp2_with fail
              refine (HHE.out _ HL7.out).mono ?_
              rintro e w8 ⟨rfl, hb8⟩
              have HX8 := Lib.hid (HX7.out.below hb8)
              have HS8 := Lib.hid (HS7.out.below hb8)
              have HY8 := Lib.hid (HY7.out.below hb8)
              have HZ8 := Lib.hid (HZ7.out.below hb8)
              have HG8 := Lib.hid (HG7.out.below hb8)
              have HL8 := Lib.hid (HL7.out.below hb8)
              have HB8 := Lib.hid (bstep HB7.out hb8)
              clear x_0 x_1 x_2 x_3 x_4 x_5 x_6 s_0 s_1 y_0 y_1
              clear hb8
              obtain ⟨x_0, x_1, x_2, x_3, x_4, x_5, x_6, _⟩ := HX8.out
              obtain ⟨s_0, s_1, _⟩ := HS8.out
              obtain ⟨y_0, y_1, _⟩ := HY8.out
              go_upto_region 17 with fail
              go_wp2_with fail
              refine (HRD.out _).mono ?_
              rintro e w9 ⟨rfl, hb9⟩
              have HX9 := Lib.hid (HX8.out.below hb9)
              have HS9 := Lib.hid (HS8.out.below hb9)
              have HY9 := Lib.hid (HY8.out.below hb9)
              have HZ9 := Lib.hid (HZ8.out.below hb9)
              have HG9 := Lib.hid (HG8.out.below hb9)
              have HL9 := Lib.hid (HL8.out.below hb9)
              have HB9 := Lib.hid (bstep HB8.out hb9)
              clear x_0 x_1 x_2 x_3 x_4 x_5 x_6 s_0 s_1 y_0 y_1
              clear hb9
              obtain ⟨x_0, x_1, x_2, x_3, x_4, x_5, x_6, _⟩ := HX9.out
              obtain ⟨s_0, s_1, _⟩ := HS9.out
              obtain ⟨y_0, y_1, _⟩ := HY9.out
              have HQN := Lib.hid (show 1 ≤ n / Nat.gcd n d ∧ n / Nat.gcd n d ≤ 1000000 ∧ 1 ≤ d / Nat.gcd n d ∧ d / Nat.gcd n d ≤ 1000000 ∧ Nat.gcd (n / Nat.gcd n d) (d / Nat.gcd n d) = 1 from ⟨Nat.div_pos (Nat.gcd_le_left _ HND.out.1.1) (Nat.gcd_pos_of_pos_left _ HND.out.1.1), Nat.le_trans (Nat.div_le_self _ _) HND.out.1.2, Nat.div_pos (Nat.gcd_le_right _ HND.out.2.1) (Nat.gcd_pos_of_pos_left _ HND.out.1.1), Nat.le_trans (Nat.div_le_self _ _) HND.out.2.2, gcd_red HND.out.1.1⟩)
              generalize n / Nat.gcd n d = nn at *
              generalize d / Nat.gcd n d = dd at *
              go_upto_region 19 with fail
              obtain ⟨B0, hB0⟩ : ∃ B0, w9.heap.size = B0 := ⟨_, rfl⟩
              have hzl : w.heap.size + 1 + 1 + 1 < B0 := by rw [← hB0]; exact HZ9.out.lt
              have hS : Cs [(⟨w.heap.size, 3, none⟩, .slice C g.offers.length c3), (⟨w.heap.size + 1, 0, none⟩, .string (codeOf s)), (⟨w.heap.size + 1, 1, none⟩, .int .i64 (issOf s)), (⟨w.heap.size + 1 + 1, 0, none⟩, .string (codeOf b)), (⟨w.heap.size + 1 + 1, 1, none⟩, .int .i64 (issOf b))] w9.drew ∧ Below w.heap.size w w9.drew ∧ B0 ≤ w9.drew.heap.size ∧ HasB w.heap.size (.cells #[.int .i64 g.number, .slice A g.accs.length c, .slice B g.lines.length c2, .slice C g.offers.length c3, .int .i64 g.next, .int .i64 g.fees, .int .u64 g.link] 30 (0, 0)) w9.drew ∧ HasB (w.heap.size + 1 + 1 + 1) (.cells #[.int .i64 0, .slice none 0 0, .slice none 0 0, .slice none 0 0, .int .i64 0, .int .i64 0, .int .u64 0] 30 (0, 0)) w9.drew := ⟨⟨x_3, s_0, s_1, y_0, y_1, trivial⟩, bdrew HB9.out, by rw [← hB0]; exact Nat.le_refl _, HG9.out, HZ9.out⟩
              refine region_f (fun W => Cs [(⟨w.heap.size, 3, none⟩, .slice C g.offers.length c3), (⟨w.heap.size + 1, 0, none⟩, .string (codeOf s)), (⟨w.heap.size + 1, 1, none⟩, .int .i64 (issOf s)), (⟨w.heap.size + 1 + 1, 0, none⟩, .string (codeOf b)), (⟨w.heap.size + 1 + 1, 1, none⟩, .int .i64 (issOf b))] W ∧ Below w.heap.size w W ∧ B0 ≤ W.heap.size ∧ HasB w.heap.size (.cells #[.int .i64 g.number, .slice A g.accs.length c, .slice B g.lines.length c2, .slice C g.offers.length c3, .int .i64 g.next, .int .i64 g.fees, .int .u64 g.link] 30 (0, 0)) W ∧ HasB (w.heap.size + 1 + 1 + 1) (.cells #[.int .i64 0, .slice none 0 0, .slice none 0 0, .slice none 0 0, .int .i64 0, .int .i64 0, .int .u64 0] 30 (0, 0)) W) [14] (by kernel_rfl) ?_
              have hSK := hS
              clear hS
              clear x_0 x_1 x_2 x_3 x_4 x_5 x_6 s_0 s_1 y_0 y_1
              refine take_y (some 110) (i := 0) (v := ?_) rfl rfl (by kernel_rfl) (by kernel_rfl) (by kernel_rfl) (fun _ _ _ h => h) (Or.inl ⟨by rfl, ?_⟩) ?_
              rotate_left
              · intro w _; go_simp; (try with_reducible rfl)
              try simp only [Act.put, List.setIfInBounds_toArray, List.set_cons_zero, List.set_cons_succ]
              refine take_f (some 111) [2, 12, 13, 14] (i := 1) (v := ?_) rfl rfl (by kernel_rfl) (by kernel_rfl) (by kernel_rfl) (by kernel_rfl) (fun _ _ _ h => h) (Or.inl ⟨by rfl, ?_⟩) (by assumption) ?_
              rotate_left
              · intro w hSw; (dsimp only [Cs] at hSw); go_simp; (try with_reducible rfl)
              try simp only [Act.put, List.setIfInBounds_toArray, List.set_cons_zero, List.set_cons_succ]
              refine take_y (some 113) (i := 3) (v := ?_) rfl rfl (by kernel_rfl) (by kernel_rfl) (by kernel_rfl) (fun _ _ _ h => h) (Or.inl ⟨by rfl, ?_⟩) ?_
              rotate_left
              · intro w _; go_simp; (try with_reducible rfl)
              try simp only [Act.put, List.setIfInBounds_toArray, List.set_cons_zero, List.set_cons_succ]
              refine take_y (some 114) (i := 4) (v := ?_) rfl rfl (by kernel_rfl) (by kernel_rfl) (by kernel_rfl) (fun _ _ _ h => h) (Or.inl ⟨by rfl, ?_⟩) ?_
              rotate_left
              · intro w _; go_simp; (try with_reducible rfl)
              try simp only [Act.put, List.setIfInBounds_toArray, List.set_cons_zero, List.set_cons_succ]
              refine take_f (some 115) [10, 11, 12, 13, 14] (i := 5) (v := ?_) rfl rfl (by kernel_rfl) (by kernel_rfl) (by kernel_rfl) (by kernel_rfl) (fun _ _ _ h => h) (Or.inl ⟨by rfl, ?_⟩) (by assumption) ?_
              rotate_left
              · intro w hSw; (dsimp only [Cs] at hSw); go_simp; (try with_reducible rfl)
              try simp only [Act.put, List.setIfInBounds_toArray, List.set_cons_zero, List.set_cons_succ]
              refine take_f (some 116) [10, 11, 12, 13, 14] (i := 6) (v := ?_) rfl rfl (by kernel_rfl) (by kernel_rfl) (by kernel_rfl) (by kernel_rfl) (fun _ _ _ h => h) (Or.inl ⟨by rfl, ?_⟩) (by assumption) ?_
              rotate_left
              · intro w hSw; (dsimp only [Cs] at hSw); go_simp; (try with_reducible rfl)
              try simp only [Act.put, List.setIfInBounds_toArray, List.set_cons_zero, List.set_cons_succ]
              refine take_y (some 117) (i := 7) (v := ?_) rfl rfl (by kernel_rfl) (by kernel_rfl) (by kernel_rfl) (fun _ _ _ h => h) (Or.inl ⟨by rfl, ?_⟩) ?_
              rotate_left
              · intro w _; go_simp; (try with_reducible rfl)
              try simp only [Act.put, List.setIfInBounds_toArray, List.set_cons_zero, List.set_cons_succ]
              refine take_y (some 118) (i := 8) (v := ?_) rfl rfl (by kernel_rfl) (by kernel_rfl) (by kernel_rfl) (fun _ _ _ h => h) (Or.inl ⟨by rfl, ?_⟩) ?_
              rotate_left
              · intro w _; go_simp; (try with_reducible rfl)
              try simp only [Act.put, List.setIfInBounds_toArray, List.set_cons_zero, List.set_cons_succ]
              refine take_y (some 119) (i := 9) (v := ?_) rfl rfl (by kernel_rfl) (by kernel_rfl) (by kernel_rfl) (fun _ _ _ h => h) (Or.inl ⟨by rfl, ?_⟩) ?_
              rotate_left
              · intro w _; go_simp; (try with_reducible rfl)
              try simp only [Act.put, List.setIfInBounds_toArray, List.set_cons_zero, List.set_cons_succ]
              refine take_y (some 120) (i := 10) (v := ?_) rfl rfl (by kernel_rfl) (by kernel_rfl) (by kernel_rfl) (fun _ _ _ h => h) (Or.inl ⟨by rfl, ?_⟩) ?_
              rotate_left
              · intro w _; go_simp; (try with_reducible rfl)
              try simp only [Act.put, List.setIfInBounds_toArray, List.set_cons_zero, List.set_cons_succ]
              obtain ⟨i0, hi, hz0, hz1, hz2⟩ := info_parts infoO
              have HLEN := Lib.hid (HOK.out.olen)
              have H1C := Lib.hid (flatS_one encO_one g.offers)
              have HFL := Lib.hid (flatS_len encO_len g.offers)
              refine phaseP [(2, 112), (11, 121)] 3 (AddR B0 g.offers ⟨g.next, i, s, b, amt, nn, dd⟩) (fun W => Cs [(⟨w.heap.size, 3, none⟩, .slice C g.offers.length c3), (⟨w.heap.size + 1, 0, none⟩, .string (codeOf s)), (⟨w.heap.size + 1, 1, none⟩, .int .i64 (issOf s)), (⟨w.heap.size + 1 + 1, 0, none⟩, .string (codeOf b)), (⟨w.heap.size + 1 + 1, 1, none⟩, .int .i64 (issOf b))] W ∧ Below w.heap.size w W ∧ B0 ≤ W.heap.size ∧ HasB w.heap.size (.cells #[.int .i64 g.number, .slice A g.accs.length c, .slice B g.lines.length c2, .slice C g.offers.length c3, .int .i64 g.next, .int .i64 g.fees, .int .u64 g.link] 30 (0, 0)) W ∧ HasB (w.heap.size + 1 + 1 + 1) (.cells #[.int .i64 0, .slice none 0 0, .slice none 0 0, .slice none 0 0, .int .i64 0, .int .i64 0, .int .u64 0] 30 (0, 0)) W) (fun W W' => Below W.heap.size W W') (by decide) (by decide) (by kernel_rfl) (fun j _ W W' v h hb => h.mono hb) ?hstep (fun _ h => h) ?hend hSK
              case hstep =>
                intro x hx f W hG hd
                simp only [List.mem_cons, List.not_mem_nil, or_false] at hx
                rcases hx with rfl | rfl
                · simp only [putL, Act.put, List.setIfInBounds_toArray, List.set_cons_zero, List.set_cons_succ]
                  refine wpOp_step rfl (fun K' hK => ?_)
                  have HKK := Lib.hid hK
                  have HGG := Lib.hid hG
                  rcases (show C = none ∨ ∃ ad, C = some ad by cases C <;> simp) with hC | ⟨ad, hC⟩
                  · have h0 : g.offers = [] := by
                      rcases hq : g.offers with _ | ⟨x, l⟩
                      · rfl
                      · obtain ⟨b', off', e, _⟩ := HWF.out.o.at_ (k := 0) (x := x) (by rw [hq]; rfl)
                        rw [hC] at e; cases e
                    have h1 := HNE.out h0
                    rw [h1]
                    have H1 := Lib.hid h1
                    have HE0 := Lib.hid h0
                    clear hK hG hd h1 h0
                    go_simp
                    exact HKK.out _ _ ⟨.slice none 0 0, by rw [H1.out], HGG.out, by unfold AddR; rw [if_pos rfl, HE0.out]; exact World.ownsRow_nil _ _ _ _, bref _⟩
                  · have hCe : Value.slice C g.offers.length c3 = .slice (some ad) g.offers.length c3 := by rw [hC]
                    have HSRC := Lib.hid (RowAt.source' encO_len (P := P) (L := g.offers) (ad := ad) (m := g.offers.length) (c := c3) (w := W) (by have := HWF.out.o.below hG.2.1; rw [hC] at this; exact this))
                    clear hK hd
                    refine step_own rfl _ _ 27 rfl B0 100 i0 (.agg #[.int .i64 0, .int .i64 0, .string ⟨#[]⟩, .int .i64 0, .string ⟨#[]⟩, .int .i64 0, .int .i64 0, .int .i64 0, .int .i64 0]) 9 88 Try.underlying27 hi hz0 hz1 hz2 rfl (by decide) (.slice none 0 0) 0 [] rfl (World.ownsRow_nil _ _ _ _) ad g.offers.length c3 (flatS encO g.offers) (by exact hCe) HFL.out HSRC.out (fun u hu => H1C.out u hu) (by have := HLEN.out; unfold maxLen; omega) (by have := HLEN.out; omega) hG.2.2.1 ?_
                    intro v' W' hown' hgr'
                    rw [Nat.zero_add, List.nil_append] at hown'
                    have hbW : Below W.heap.size W W' := Below.grown (bref W) hgr' (Nat.le_refl _) (fun j hj => by cases hj)
                    exact HKK.out _ _ ⟨v', rfl, ⟨HGG.out.1.below hbW, bstep HGG.out.2.1 hbW, Nat.le_trans HGG.out.2.2.1 hbW.size, HGG.out.2.2.2.1.below hbW, HGG.out.2.2.2.2.below hbW⟩, by unfold AddR; rw [if_pos rfl]; exact hown', hbW⟩
                · simp only [putL, Act.put, List.setIfInBounds_toArray, List.set_cons_zero, List.set_cons_succ]
                  refine wpOp_step rfl (fun K' hK => ?_)
                  have HKK := Lib.hid hK
                  have HGG := Lib.hid hG
                  clear hK hG hd
                  go_simp
                  exact HKK.out _ _ ⟨.slice (some ⟨W.heap.size, 0, none⟩) 1 1, rfl, ⟨HGG.out.1.alloc _, balloc HGG.out.2.1 _, by rw [alloc_szS]; exact Nat.le_succ_of_le HGG.out.2.2.1, HGG.out.2.2.2.1.alloc _, HGG.out.2.2.2.2.alloc _⟩, by unfold AddR; rw [if_neg (by decide)]; exact ⟨W.heap.size, rfl, by simp, fun k u hu => (row_new W _ _ k).trans (by simpa [encO] using hu)⟩, balloc (bref _) _⟩
              case hend =>
                intro f W hG hR
                have hR2 := hR 2 (by decide)
                have hR11 := hR 11 (by decide)
                unfold AddR at hR2 hR11
                rw [if_pos rfl] at hR2
                rw [if_neg (by decide)] at hR11
                obtain ⟨q, hq, hql, hqc⟩ := hR11
                have HQC := Lib.hid hqc
                have HO2' := Lib.hid hR2
                simp only [putL, Act.put, List.setIfInBounds_toArray, List.set_cons_zero, List.set_cons_succ]
                rw [hq]
                generalize f 2 = v2 at *
                clear hR hq hqc hSK
                have hSK := hG
                have hsz2 := hG.2.2.1
                clear hR2
                refine one_f (i := 12) (by kernel_rfl) rfl (fun K hK => ?_)
                refine step_own rfl _ _ 27 rfl B0 100 i0 (.agg #[.int .i64 0, .int .i64 0, .string ⟨#[]⟩, .int .i64 0, .string ⟨#[]⟩, .int .i64 0, .int .i64 0, .int .i64 0, .int .i64 0]) 9 88 Try.underlying27 hi hz0 hz1 hz2 rfl (by decide) v2 g.offers.length (flatS encO g.offers) rfl HO2'.out ⟨q, 0, none⟩ 1 1 [.int .i64 g.next, .int .i64 i, .string (codeOf s), .int .i64 (issOf s), .string (codeOf b), .int .i64 (issOf b), .int .i64 amt, .int .i64 (nn : Int), .int .i64 (dd : Int)] rfl rfl (fun j u hu => by rw [Addr.add_lit, Nat.zero_add]; exact HQC.out j u hu) (fun u hu => encO_one ⟨g.next, i, s, b, amt, nn, dd⟩ u hu) (by have := HLEN.out; unfold maxLen; omega) (by have := HLEN.out; omega) hsz2 ?_
                intro v' W' hown' hgr'
                have hlow : ∀ k, k < W.heap.size → k < B0 → W'.heap[k]? = W.heap[k]? := fun k h1 h2 => hgr'.block k h1 (fun e => by have := (HO2'.out.lt k e.symm).1; omega)
                have hbig : w.heap.size ≤ B0 := by omega
                have hcell : ∀ (p : Addr) (u : Value), p.block < B0 → W.cell? p = some u → W'.cell? p = some u := fun p u hp h => (World.cell?_of_block (hlow _ (cell_lt h) hp)).trans h
                have hSK2 : Cs [(⟨w.heap.size, 3, none⟩, .slice C g.offers.length c3), (⟨w.heap.size + 1, 0, none⟩, .string (codeOf s)), (⟨w.heap.size + 1, 1, none⟩, .int .i64 (issOf s)), (⟨w.heap.size + 1 + 1, 0, none⟩, .string (codeOf b)), (⟨w.heap.size + 1 + 1, 1, none⟩, .int .i64 (issOf b))] W' ∧ Below w.heap.size w W' ∧ B0 ≤ W'.heap.size ∧ HasB w.heap.size (.cells #[.int .i64 g.number, .slice A g.accs.length c, .slice B g.lines.length c2, .slice C g.offers.length c3, .int .i64 g.next, .int .i64 g.fees, .int .u64 g.link] 30 (0, 0)) W' ∧ HasB (w.heap.size + 1 + 1 + 1) (.cells #[.int .i64 0, .slice none 0 0, .slice none 0 0, .slice none 0 0, .int .i64 0, .int .i64 0, .int .u64 0] 30 (0, 0)) W' := ⟨⟨hcell _ _ (by show w.heap.size < B0; omega) hSK.1.1, hcell _ _ (by show w.heap.size + 1 < B0; omega) hSK.1.2.1, hcell _ _ (by show w.heap.size + 1 < B0; omega) hSK.1.2.2.1, hcell _ _ (by show w.heap.size + 1 + 1 < B0; omega) hSK.1.2.2.2.1, hcell _ _ (by show w.heap.size + 1 + 1 < B0; omega) hSK.1.2.2.2.2.1, trivial⟩, Below.grown hSK.2.1 hgr' hSK.2.1.size (fun j hj => Nat.le_trans hbig (HO2'.out.lt j hj).1), Nat.le_trans hsz2 hgr'.size, (hlow _ hSK.2.2.2.1.lt (by omega)).trans hSK.2.2.2.1, (hlow _ hSK.2.2.2.2.lt hzl).trans hSK.2.2.2.2⟩
                obtain ⟨g4, cap4, rfl, hg4, hg4l⟩ := hown'.form (by omega)
                have HOWN := Lib.hid hown'
                refine hK.out _ _ (Or.inr (fun _ => hSK2)) ?_
                clear hK K hSK hgr' hlow hcell hown' hG
                try simp only [Act.put, List.setIfInBounds_toArray, List.set_cons_zero, List.set_cons_succ]
                refine take_y (some 123) (i := 13) (v := ?_) rfl rfl (by kernel_rfl) (by kernel_rfl) (by kernel_rfl) (fun _ _ _ h => h) (Or.inl ⟨by rfl, ?_⟩) ?_
                rotate_left
                · intro w _; go_simp; (try with_reducible rfl)
                try simp only [Act.put, List.setIfInBounds_toArray, List.set_cons_zero, List.set_cons_succ]
                refine one_f (i := 14) (by kernel_rfl) rfl (fun K hK => ?_)
                have y0 := hSK2.1.1
                have y1 := hSK2.2.2.2.1.fr 3
                have HS2 := Lib.hid hSK2
                clear hSK2
                go_simp
                refine hK.out _ _ (Or.inl (by kernel_rfl)) ?_
                clear hK K
                try simp only [Act.put, List.setIfInBounds_toArray, List.set_cons_zero, List.set_cons_succ]
                refine done_f (by kernel_rfl) ?_ _
                clear y0 y1
                have HG9 := Lib.hid (HS2.out.2.2.2.1.set3 (.slice (some ⟨g4, 0, none⟩) (g.offers.length + 1) cap4))
                have HZ9 := Lib.hid (HS2.out.2.2.2.2.far (p := ⟨w.heap.size, 3, none⟩) (by show w.heap.size ≠ w.heap.size + 1 + 1 + 1; omega) (.slice (some ⟨g4, 0, none⟩) (g.offers.length + 1) cap4))
                have HB9 := Lib.hid (bset HS2.out.2.1 (p := ⟨w.heap.size, 3, none⟩) (by show w.heap.size ≤ w.heap.size; omega) (.slice (some ⟨g4, 0, none⟩) (g.offers.length + 1) cap4))
                have HO9 := Lib.hid (ownsRow_setCell_below HOWN.out (a := ⟨w.heap.size, 3, none⟩) (by show w.heap.size < B0; omega) (.slice (some ⟨g4, 0, none⟩) (g.offers.length + 1) cap4))
                generalize W'.setCell ⟨w.heap.size, 3, none⟩ (.slice (some ⟨g4, 0, none⟩) (g.offers.length + 1) cap4) = W9 at *
                clear HOWN HS2
                obtain ⟨x_0, x_1, x_2, x_3, x_4, x_5, x_6, _⟩ := HG9.out.cs7
                have xf := HG9.out.fr 4
                obtain ⟨z_0, z_1, z_2, z_3, z_4, z_5, z_6, _⟩ := HZ9.out.cs7
                have zf0 := HZ9.out.fr 0
                have zf1 := HZ9.out.fr 1
                have zf2 := HZ9.out.fr 2
                have zf3 := HZ9.out.fr 3
                have zf4 := HZ9.out.fr 4
                have zf5 := HZ9.out.fr 5
                have zf6 := HZ9.out.fr 6
                have n0 := HOK.out.n0
                have n1 := HOK.out.n1
                have HK := Lib.hid HZ9.out
              
                have HBF := Lib.hid (bset (bset (bset (bset (bset (bset (bset (bset HB9.out (p := ⟨w.heap.size, 4, none⟩) (by show w.heap.size ≤ w.heap.size; omega) (.int .i64 (g.next + 1))) (p := ⟨w.heap.size + 1 + 1 + 1, 0, none⟩) (by show w.heap.size ≤ w.heap.size + 1 + 1 + 1; omega) (.int .i64 g.number)) (p := ⟨w.heap.size + 1 + 1 + 1, 1, none⟩) (by show w.heap.size ≤ w.heap.size + 1 + 1 + 1; omega) (.slice A g.accs.length c)) (p := ⟨w.heap.size + 1 + 1 + 1, 2, none⟩) (by show w.heap.size ≤ w.heap.size + 1 + 1 + 1; omega) (.slice B g.lines.length c2)) (p := ⟨w.heap.size + 1 + 1 + 1, 3, none⟩) (by show w.heap.size ≤ w.heap.size + 1 + 1 + 1; omega) (.slice (some ⟨g4, 0, none⟩) (g.offers.length + 1) cap4)) (p := ⟨w.heap.size + 1 + 1 + 1, 4, none⟩) (by show w.heap.size ≤ w.heap.size + 1 + 1 + 1; omega) (.int .i64 (g.next + 1))) (p := ⟨w.heap.size + 1 + 1 + 1, 5, none⟩) (by show w.heap.size ≤ w.heap.size + 1 + 1 + 1; omega) (.int .i64 g.fees)) (p := ⟨w.heap.size + 1 + 1 + 1, 6, none⟩) (by show w.heap.size ≤ w.heap.size + 1 + 1 + 1; omega) (.int .u64 g.link))
                have HOF := Lib.hid (ownsRow_setCell_below (ownsRow_setCell_below (ownsRow_setCell_below (ownsRow_setCell_below (ownsRow_setCell_below (ownsRow_setCell_below (ownsRow_setCell_below (ownsRow_setCell_below HO9.out (a := ⟨w.heap.size, 4, none⟩) (by show w.heap.size < B0; omega) (.int .i64 (g.next + 1))) (a := ⟨w.heap.size + 1 + 1 + 1, 0, none⟩) hzl (.int .i64 g.number)) (a := ⟨w.heap.size + 1 + 1 + 1, 1, none⟩) hzl (.slice A g.accs.length c)) (a := ⟨w.heap.size + 1 + 1 + 1, 2, none⟩) hzl (.slice B g.lines.length c2)) (a := ⟨w.heap.size + 1 + 1 + 1, 3, none⟩) hzl (.slice (some ⟨g4, 0, none⟩) (g.offers.length + 1) cap4)) (a := ⟨w.heap.size + 1 + 1 + 1, 4, none⟩) hzl (.int .i64 (g.next + 1))) (a := ⟨w.heap.size + 1 + 1 + 1, 5, none⟩) hzl (.int .i64 g.fees)) (a := ⟨w.heap.size + 1 + 1 + 1, 6, none⟩) hzl (.int .u64 g.link))
                go_wp2_with fail
                refine bodyPost_ret (v := .tuple #[.agg #[.int .i64 g.number, .slice A g.accs.length c, .slice B g.lines.length c2, .slice (some ⟨g4, 0, none⟩) (g.offers.length + 1) cap4, .int .i64 (g.next + 1), .int .i64 g.fees, .int .u64 g.link], .int .i64 g.next, .int .i64 0]) ?_ rfl ⟨.inr ⟨.slice (some ⟨g4, 0, none⟩) (g.offers.length + 1) cap4, ⟨g.next, i, s, b, amt, nn, dd⟩, rfl, ?_, ?_⟩, HBF.out⟩
                · simp [results, Try.results37, go_sem, z_0, z_1, z_2, z_3, z_4, z_5, z_6, (show _ = _ from HK.out)]
                · have h1 := RowAt.of_own (P := fun b => w.heap.size ≤ b) (L := g.offers ++ [⟨g.next, i, s, b, amt, nn, dd⟩]) encO_len (by
                    rw [flatS_append, List.length_append]
                    exact HOF.out) (by have := HLEN.out; simp; unfold maxLen; omega) (fun b hb _ => by omega)
                  exact h1
                · exact HOK.out.add ⟨HHS.out, n0, by show g.next < g.next + 1; omega, HSB.out.1, HSB.out.2, HSN.out, HAM.out.1, HAM.out.2, HQN.out.1, HQN.out.2.1, HQN.out.2.2.1, HQN.out.2.2.2.1, HQN.out.2.2.2.2⟩ rfl (by have := H4.out; have := HOK.out.olen; omega) (by have := H5.out; omega)

end Go.Proofs.Ytfmdnhhdjjndbaa
