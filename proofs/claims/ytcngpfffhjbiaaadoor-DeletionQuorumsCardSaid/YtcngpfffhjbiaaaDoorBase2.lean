/- What the laws of this seat share: part 2. -/
import Derived.Test.YtcngpfffhjbiaaaDoorBase1
import Derived.BigQuiet
import Derived.Deep.RegionHeld3
import Derived.PlainAid
import Derived.Laws.DeepStrings4

namespace Go.Proofs.YtcngpfffhjbiaaaDoor
set_option linter.unusedVariables false
open Go.RowKit

theorem sub_and {Q a b : Nat} : Sub Q (a &&& b) ↔ Sub Q a ∧ Sub Q b := by
  unfold Sub
  constructor
  · intro h
    exact ⟨fun k hk => by have := h k hk; rw [Nat.testBit_and, Bool.and_eq_true] at this; exact this.1, fun k hk => by have := h k hk; rw [Nat.testBit_and, Bool.and_eq_true] at this; exact this.2⟩
  · rintro ⟨h1, h2⟩ k hk
    rw [Nat.testBit_and, h1 k hk, h2 k hk]; rfl

/-- What the loop of eliminate keeps. -/
structure ElimAt (d : Nat) (ms : List Mem) (S : Nat) (gs : List Int) (r : Nat) : Prop where
  lt : r < 1024
  len : gs.length + r ≤ 1023
  sub : Sub r S
  elim : ElimR d ms S gs r
  most : ∀ Q, Q < 1024 → Sub Q S → Closed d ms Q → Sub Q r

theorem ElimAt.first {d : Nat} {ms : List Mem} {S : Nat} (h : S < 1024) : ElimAt d ms S [] S := ⟨h, by simp; omega, fun _ h => h, rfl, fun Q _ h _ => h⟩

theorem ElimAt.step {d : Nat} {ms : List Mem} {S : Nat} {gs : List Int} {r k : Nat} (h : ElimAt d ms S gs r) (hl : ms.length ≤ 10) (hk : k < ms.length) (hu : uns d ms r k = true) : r.testBit k = true ∧ ElimAt d ms S (gs ++ [(k : Int)]) (r - 2 ^ k) := by
  have hu' := hu
  unfold uns at hu'
  simp only [Bool.and_eq_true, Bool.not_eq_true'] at hu'
  have hb : r.testBit k = true := by rw [← hasB_bit h.lt (by omega)]; exact hu'.1
  have hp : 1 ≤ 2 ^ k := Nat.one_le_pow _ _ (by omega)
  have hle := bit_le hb
  have hl0 := h.len
  refine ⟨hb, by have := h.lt; omega, by simp; omega, fun j hj => ?_, h.elim.snoc _ _ _ _ hk hu, fun Q hQ hQS hQc => fun j hj => ?_⟩
  · rw [del_bit r k j h.lt (by omega) hb] at hj
    simp only [Bool.and_eq_true] at hj
    exact h.sub j hj.1
  · have h1 := h.most Q hQ hQS hQc
    rw [del_bit r k j h.lt (by omega) hb, h1 j hj]
    by_cases e : j = k
    · subst e
      have hc := hQc j hk
      unfold uns at hc
      rw [hasB_bit hQ (by omega), hj, Bool.true_and, Bool.not_eq_false'] at hc
      rw [sat_sub h.lt h1 hc] at hu'
      simp at hu'
    · simpa using e

theorem ElimAt.gr {d : Nat} {ms : List Mem} {S : Nat} {gs : List Int} {r : Nat} (h : ElimAt d ms S gs r) (hc : Closed d ms r) : IsGr d ms S r := ⟨h.sub, hc, h.most⟩

theorem own_snoc {w : World} {v : Value} {n B : Nat} {gs : List Int} {x : Int} (h : w.ownsRow B 3 1 v n (gs.map (Value.int .i64) ++ [.int .i64 x])) : w.ownsRow B 3 1 v n ((gs ++ [x]).map (Value.int .i64)) := by
  rw [List.map_append]; exact h

theorem nodes_imp {P Q : Nat → Prop} {w : World} {v : Value} {ns : List Int} (h : NodesAt P w v ns) (hq : ∀ k, P k → Q k) : NodesAt Q w v ns := by
  obtain ⟨A, c, h1, h2⟩ := h
  refine ⟨A, c, h1, fun k hk' => ?_⟩
  obtain ⟨b, off, e1, e2, e3⟩ := h2 k hk'
  exact ⟨b, off, e1, hq _ e2, e3⟩

theorem own_bel {W W' : World} {B n e size : Nat} {v : Value} {xs : List Value} (h : W.ownsRow B e size v n xs) (hb : Below W.heap.size W W') : W'.ownsRow B e size v n xs := by
  refine h.kept (row := none) ⟨hb.os, hb.tape, hb.output, hb.size, fun k hk _ => hb.block k hk⟩ ?_
  cases hv : v.ownBlock
  · exact .inl rfl
  · exact .inr (by simp)

/-- What leastUnsatisfied says. -/
def KOk (d : Nat) (ms : List Mem) (s : Nat) (K : Int) : Prop := (∃ k : Nat, K = (k : Int) ∧ k < ms.length ∧ uns d ms s k = true) ∨ (K = -1 ∧ Closed d ms s)

theorem andNot_nat (a b : Nat) (ha : a < 1024) (hb : b < 1024) : bits .andNot .i64 (a : Int) (b : Int) = ((a ^^^ (a &&& b) : Nat) : Int) := by
  have hx : a ^^^ (a &&& b) < 2 ^ 63 := Nat.xor_lt_two_pow (by omega) (Nat.lt_of_le_of_lt Nat.and_le_left (by omega))
  show IntKind.i64.wrap ((BitVec.ofInt 64 (a : Int) &&& ~~~BitVec.ofInt 64 (b : Int)).toNat : Int) = _
  have e : (BitVec.ofInt 64 (a : Int) &&& ~~~BitVec.ofInt 64 (b : Int)).toNat = a ^^^ (a &&& b) := by
    apply Nat.eq_of_testBit_eq
    intro i
    rw [BitVec.toNat_and, BitVec.toNat_not, ofInt_i64 a (by omega), ofInt_i64 b (by omega), Nat.testBit_and, Nat.testBit_xor, Nat.testBit_and]
    have h2 : (2 : Nat) ^ 64 - 1 - b = 2 ^ 64 - (b + 1) := by omega
    rw [h2, Nat.testBit_two_pow_sub_succ (by omega)]
    rcases Nat.lt_or_ge i 64 with hi | hi
    · simp only [hi, decide_true, Bool.true_and]
      cases a.testBit i <;> cases b.testBit i <;> rfl
    · have h10 : (1024 : Nat) ≤ 2 ^ i := Nat.le_trans (by decide) (Nat.pow_le_pow_right (n := 2) (by omega) hi)
      rw [Nat.testBit_lt_two_pow (show a < 2 ^ i by omega)]; rfl
  rw [e, IntKind.wrap_i64]
  omega

theorem sub_iff {a b : Nat} : a ^^^ (a &&& b) = 0 ↔ Sub a b := by
  constructor
  · intro h k hk
    have h1 : (a ^^^ (a &&& b)).testBit k = false := by rw [h]; simp
    rw [Nat.testBit_xor, Nat.testBit_and, hk] at h1
    cases hb : b.testBit k
    · rw [hb] at h1; cases h1
    · rfl
  · intro h
    apply Nat.eq_of_testBit_eq
    intro i
    rw [Nat.testBit_xor, Nat.testBit_and, Nat.zero_testBit]
    cases ha : a.testBit i
    · rfl
    · rw [h i ha]; rfl

end Go.Proofs.YtcngpfffhjbiaaaDoor

namespace Go.Proofs.YtcngpfffhjbiaaaDoor
set_option linter.unusedVariables false
open Go.RowKit

theorem drop_cons {l : List Int} {k : Nat} (h : k < l.length) : l.drop k = l.getD k 0 :: l.drop (k + 1) := by
  rw [List.getD_eq_getElem?_getD, List.getElem?_eq_getElem h]
  exact List.drop_eq_getElem_cons h

end Go.Proofs.YtcngpfffhjbiaaaDoor

namespace Go.Proofs.YtcngpfffhjbiaaaDoor
set_option linter.unusedVariables false
open Go.RowKit

def thT : Tree := .mk 2 [0, 1, 2] []

def thM : List Mem := [(true, thT), (true, thT), (true, thT)]

theorem nodes_bel {P : Nat → Prop} {w w' : World} {v : Value} {ns : List Int} (h : NodesAt P w v ns) (hb : Below w.heap.size w w') : NodesAt P w' v ns := by
  obtain ⟨A, c, h1, h2⟩ := h
  refine ⟨A, c, h1, fun k hk' => ?_⟩
  obtain ⟨b, off, e1, e2, e3⟩ := h2 k hk'
  exact ⟨b, off, e1, e2, (hb.cell (cell_lt e3)).trans e3⟩

theorem thM_decl : declS thM 3 = 7 := by decide

theorem thM_3 : ∀ k, k < 3 → uns 1 thM 3 k = false := by decide +kernel

theorem thM_7 : ∀ k, k < 3 → uns 1 thM 7 k = false := by decide +kernel

theorem thM_0 : ∀ k, k < 3 → uns 1 thM 0 k = false := by decide +kernel

theorem thM_1 : uns 1 thM 1 0 = true ∧ uns 1 thM 1 1 = false ∧ uns 1 thM 1 2 = false := by decide +kernel

theorem sub_antisymm {a b : Nat} (h1 : Sub a b) (h2 : Sub b a) : a = b := by
  apply Nat.eq_of_testBit_eq
  intro i
  rw [Bool.eq_iff_iff]
  exact ⟨h1 i, h2 i⟩

theorem gr_7 {G : Nat} (h : IsGr 1 thM 7 G) : G = 7 := sub_antisymm h.sub (h.most 7 (by omega) (fun _ h => h) (fun k hk => thM_7 k hk))

theorem gr_1 {G : Nat} (h : IsGr 1 thM 1 G) : G = 0 := by
  apply Nat.eq_of_testBit_eq
  intro i
  rw [Nat.zero_testBit]
  cases hb : G.testBit i
  · rfl
  · exfalso
    have h1 := h.sub i hb
    have hi : i = 0 := by
      rcases i with _ | i
      · rfl
      · simp [Nat.testBit_succ] at h1
    subst hi
    have hG1 : G = 1 := by
      apply sub_antisymm h.sub
      intro j hj
      have : j = 0 := by
        rcases j with _ | j
        · rfl
        · simp [Nat.testBit_succ] at hj
      rw [this]; exact hb
    rw [hG1] at h
    have := h.closed 0 (by decide)
    rw [thM_1.1] at this
    cases this

theorem el_1 {gs : List Int} {G : Nat} (h : ElimR 1 thM 1 gs G) (hG : G = 0) : gs = [0] := by
  cases gs with
  | nil =>
    have : G = 1 := h
    omega
  | cons x l =>
    obtain ⟨k, rfl, hk, hu, h2⟩ := h
    have hk0 : k = 0 := by
      have hk3 : k < 3 := hk
      match k, hk3, hu with
      | 0, _, _ => rfl
      | 1, _, hu => rw [thM_1.2.1] at hu; cases hu
      | 2, _, hu => rw [thM_1.2.2] at hu; cases hu
    subst hk0
    cases l with
    | nil => rfl
    | cons y l =>
      obtain ⟨k, _, hk, hu, _⟩ := h2
      have h0 := thM_0 k hk
      rw [show (1 : Nat) - 2 ^ 0 = 0 by decide, h0] at hu
      cases hu

end Go.Proofs.YtcngpfffhjbiaaaDoor

namespace Go.Proofs.YtcngpfffhjbiaaaDoor
set_option linter.unusedVariables false
open Go.RowKit

theorem bgrownC {w a b : World} {sb : Nat} (h : Below w.heap.size w a) (hg : a.grownBy b (some sb)) (hs : w.heap.size ≤ sb) : Below w.heap.size w b :=
  h.grown hg h.size (fun k hk => by cases hk; exact hs)

structure CMade (w : World) (g : Nat) (v : Value) (ms : List Mem) (W : World) : Prop where
  tape : TapeOk W w.heap.size
  out : W.heap[g]? = some (.cells #[v] 40 (0, 0))
  mems : MemsAt (fun b => w.heap.size < b) 2 W v ms
  low : w.heap.size < g
  below : Below w.heap.size w W

theorem CMade.lt {w W : World} {g : Nat} {v : Value} {ms : List Mem} (h : CMade w g v ms W) : g < W.heap.size := by
  rcases Nat.lt_or_ge g W.heap.size with h1 | h1
  · exact h1
  · have := h.out; rw [Array.getElem?_eq_none h1] at this; cases this

theorem CMade.cell {w W : World} {g : Nat} {v : Value} {ms : List Mem} (h : CMade w g v ms W) : W.cell? ⟨g, 0, none⟩ = some v := cell_of_row _ _ 0 _ _ (0, 0) h.out

theorem CMade.bel {w W W' : World} {g : Nat} {v : Value} {ms : List Mem} (h : CMade w g v ms W) (hb : Below W.heap.size W W') : CMade w g v ms W' :=
  ⟨h.tape.below hb, (hb.block _ h.lt).trans h.out, h.mems.below hb, h.low, bstep h.below hb⟩

theorem CMade.grown {w W W' : World} {g : Nat} {v : Value} {ms : List Mem} (h : CMade w g v ms W) (hs : TapeOk W' w.heap.size) (hg : W.grownBy W' (some w.heap.size)) : CMade w g v ms W' :=
  ⟨hs, (hg.block _ h.lt (by have := h.low; simp; omega)).trans h.out, h.mems.both (fun q hq hP => hg.block q hq (by simp; omega)) (fun _ _ h => h), h.low, bgrownC h.below hg (Nat.le_refl _)⟩

theorem CMade.keeps {w W : World} {g : Nat} {v : Value} {ms : List Mem} (h : CMade w g v ms W) : W.cell? ⟨g, 0, none⟩ = some v ∧ CMade w g v ms W := ⟨h.cell, h⟩

theorem CMade.drew {w W : World} {g : Nat} {v : Value} {ms : List Mem} (h : CMade w g v ms W) : CMade w g v ms W.drew := h.bel ⟨rfl, rfl, rfl, Nat.le_refl _, fun _ _ => rfl⟩

theorem keepC {w W W' : World} {g : Nat} {v : Value} {ms : List Mem} (h : W.cell? ⟨g, 0, none⟩ = some v ∧ CMade w g v ms W) (hb : Below W.heap.size W W') : W'.cell? ⟨g, 0, none⟩ = some v ∧ CMade w g v ms W' := (h.2.bel hb).keeps

theorem growC {w W W' : World} {g : Nat} {v : Value} {ms : List Mem} (h : W.cell? ⟨g, 0, none⟩ = some v ∧ CMade w g v ms W) (hs : TapeOk W' w.heap.size) (hg : W.grownBy W' (some w.heap.size)) : W'.cell? ⟨g, 0, none⟩ = some v ∧ CMade w g v ms W' := (h.2.grown hs hg).keeps

theorem tapeC {w W : World} {g : Nat} {v : Value} {ms : List Mem} (h : W.cell? ⟨g, 0, none⟩ = some v ∧ CMade w g v ms W) : TapeOk W w.heap.size := h.2.tape

theorem memsC {w W : World} {g : Nat} {v : Value} {ms : List Mem} (h : W.cell? ⟨g, 0, none⟩ = some v ∧ CMade w g v ms W) : MemsAt (fun b => w.heap.size < b) 2 W v ms := h.2.mems

theorem gr_self {d : Nat} {ms : List Mem} {D g G : Nat} (hc : Closed d ms g) (hD : Sub g D) (hg : g < 1024) (h : IsGr d ms (g &&& D) G) : G = g :=
  sub_antisymm (fun k hk => (sub_and.1 h.sub).1 k hk) (h.most g hg (sub_and.2 ⟨fun _ h => h, hD⟩) hc)

theorem sub_or {a b D : Nat} (h1 : Sub a D) (h2 : Sub b D) : Sub (a ||| b) D := fun k hk => by
  rw [Nat.testBit_or, Bool.or_eq_true] at hk
  exact hk.elim (h1 k) (h2 k)

theorem closed_or {d : Nat} {ms : List Mem} {a b : Nat} (hl : ms.length ≤ 10) (ha : a < 1024) (hb : b < 1024) (h1 : Closed d ms a) (h2 : Closed d ms b) : Closed d ms (a ||| b) := fun k hk => by
  have hab : a ||| b < 1024 := Nat.or_lt_two_pow (n := 10) ha hb
  have e1 := h1 k hk
  have e2 := h2 k hk
  unfold uns at e1 e2 ⊢
  rw [hasB_bit ha (by omega)] at e1
  rw [hasB_bit hb (by omega)] at e2
  rw [hasB_bit hab (by omega), Nat.testBit_or]
  cases h3 : a.testBit k
  · cases h4 : b.testBit k
    · rfl
    · rw [h4, Bool.true_and, Bool.not_eq_false'] at e2
      rw [sat_sub hab (fun j hj => by rw [Nat.testBit_or, hj, Bool.or_true]) e2]; rfl
  · rw [h3, Bool.true_and, Bool.not_eq_false'] at e1
    rw [sat_sub hab (fun j hj => by rw [Nat.testBit_or, hj, Bool.true_or]) e1]; rfl

theorem gr_mono {d : Nat} {ms : List Mem} {S S' G H : Nat} (hG : G < 1024) (h : IsGr d ms S G) (h' : IsGr d ms S' H) (hs : Sub S S') : G &&& H = G := by
  have hGH : Sub G H := h'.most G hG (fun k hk => hs k (h.sub k hk)) h.closed
  apply Nat.eq_of_testBit_eq
  intro k
  rw [Nat.testBit_and]
  cases hb : G.testBit k
  · rfl
  · rw [hGH k hb]; rfl

theorem sub_or_and {x z D : Nat} : Sub (x &&& D) ((x ||| z) &&& D) := fun k hk => by
  rw [Nat.testBit_and, Bool.and_eq_true] at hk
  rw [Nat.testBit_and, Nat.testBit_or, hk.1, hk.2]; rfl

end Go.Proofs.YtcngpfffhjbiaaaDoor

namespace Go.Proofs.YtcngpfffhjbiaaaDoor
set_option linter.unusedVariables false
open Go.RowKit

set_option maxHeartbeats 4000000 in
theorem rsatT_run (P : Nat → Prop) : ∀ (d : Nat) (T : Tree) (v0 v1 v2 : Value) (s : Int) (w : World), setB s = true → TAt P d w v0 v1 v2 T →
    Calls Tryd.prog 11 #[.agg #[v0, v1, v2], .int .i64 s] w fun e w' => e = .returned (.bool (holdsT d (hasB s) T)) ∧ Below w.heap.size w w' := by
  intro d
  induction d with
  | zero => intro T v0 v1 v2 s w hs h; exact h.elim
  | succ d ih =>
    intro T v0 v1 v2 s w hs h
    obtain ⟨thr, ns, is⟩ := T
    obtain ⟨A, c, B, c', rfl, rfl, rfl, hn, hi, hbx⟩ := h.boxed
    have HBX := Lib.hid hbx
    have HB1 := Lib.hid (balloc (bref w) (.cells #[.int .i64 thr, .slice A ns.length c, .slice B is.length c'] 28))
    have HD := Lib.hid (show holdsT (d + 1) (hasB s) (.mk thr ns is) = decide (thr ≤ (cnt (hasB s) ns : Int) + (cnt (holdsT d (hasB s)) is : Int)) from by rw [← Int.natCast_add]; rfl)
    have IH := Lib.hid (fun T v0 v1 v2 w => ih T v0 v1 v2 s w hs)
    have hcn := cnt_le (hasB s) ns
    have hci := cnt_le (holdsT d (hasB s)) is
    have HSV := Lib.hid hs
    clear h hbx ih hs
    go_enter Tryd.func11, Tryd.ntmps11
    go_upto_region 1 with fail
    generalize w.alloc (.cells #[.int .i64 thr, .slice A ns.length c, .slice B is.length c'] 28) = W1 at *
    generalize hg : w.heap.size = g at *
    have hgw := Lib.hid hg
    clear hg
    have c0 := HBX.out.c0
    have c1 := HBX.out.c1
    have c2 := HBX.out.c2
    have hbl := HBX.out.lt
    go_wp2_with fail
    refine (rsetValid_run _ _).mono ?_
    rintro e w2 ⟨rfl, rfl⟩
    rw [HSV.out]
    go_wp2_with fail
    go_loop [5, 16] (fun u t => ∃ k : Nat, k ≤ ns.length ∧ t = .int .i64 k ∧ u = .int .i64 ((cnt (hasB s) (ns.take k) : Nat) : Int)) (fun _ t => ns.length - (intOf t).toNat)
    case atStart => exact ⟨0, by omega, rfl, rfl⟩
    case round =>
      obtain ⟨k, hk, rfl, rfl⟩ := hrel
      have hle := cnt_take_le (hasB s) ns k
      by_cases hlt : k < ns.length
      · obtain ⟨b, off, rfl, hc⟩ := HBX.out.nodes k hlt
        have hs' := cnt_take_succ (hasB s) ns k (ns.getD k 0) (by rw [List.getD_eq_getElem?_getD, List.getElem?_eq_getElem hlt]; rfl)
        obtain ⟨x, hx⟩ : ∃ x, ns.getD k 0 = x := ⟨_, rfl⟩
        rw [hx] at hc hs'
        clear hx
        cases hv : hasB s x
        all_goals
          rw [hv] at hs'
          have HS := Lib.hid hs'
          clear hs'
          go_wp2_with fail
          refine (rhas_run _ _ _).mono ?_
          rintro e w2 ⟨rfl, rfl⟩
          rw [hv]
          go_wp2_with fail
          go_round
          case rel => exact ⟨k + 1, by omega, by go_num, by rw [HS.out]; first | rfl | (simp)⟩
          case measure => simp [intOf]; omega
      · obtain rfl : k = ns.length := by omega
        have hfull := Lib.hid (cnt_full (hasB s) ns)
        go_wp2_with fail
        go_loopw [5, 29] (fun u t W => ∃ k : Nat, k ≤ is.length ∧ t = .int .i64 k ∧ u = .int .i64 ((cnt (hasB s) ns + cnt (holdsT d (hasB s)) (is.take k) : Nat) : Int) ∧ Hid (Below W1.heap.size W1 W)) (fun _ t _ => is.length - (intOf t).toNat)
        case atStart => exact ⟨0, by omega, rfl, by first | rfl | simp [cnt], Lib.hid (bref _)⟩
        case round =>
          obtain ⟨k, hk, rfl, rfl, hBr⟩ := hrel
          have hle := cnt_take_le (holdsT d (hasB s)) is k
          have hX := Lib.hid (HBX.out.below hBr.out)
          have d0 := hX.out.c0
          by_cases hlt : k < is.length
          · obtain ⟨b, off, t', A', n', ca, B', m', cb, rfl, hlb, e0, e1, e2, hTk⟩ := hX.out.inner k (is[k]) (List.getElem?_eq_getElem hlt)
            have hs' := cnt_take_succ (holdsT d (hasB s)) is k (is[k]) (List.getElem?_eq_getElem hlt)
            have hTr := Lib.hid (hTk.below (balloc (bref wr) (.cells #[.int .i64 t', .slice A' n' ca, .slice B' m' cb] 28)))
            have hBa := Lib.hid (balloc hBr.out (.cells #[.int .i64 t', .slice A' n' ca, .slice B' m' cb] 28))
            clear hTk d0
            generalize is[k] = Tk at *
            cases hv : holdsT d (hasB s) Tk
            all_goals
              rw [hv] at hs'
              have HS := Lib.hid hs'
              clear hs'
              go_wp2_with fail
              refine (IH.out Tk _ _ _ _ hTr.out).mono ?_
              rintro e w2 ⟨rfl, hb2⟩
              rw [hv]
              have hB2 := Lib.hid (bstep hBa.out hb2)
              clear hb2
              go_wp2_with fail
              go_roundw
              case rel => exact ⟨k + 1, by omega, by go_num, by rw [HS.out]; first | rfl | (simp; omega) | simp, hB2⟩
              case measure => simp [intOf]; omega
          · obtain rfl : k = is.length := by omega
            have hful2 := Lib.hid (cnt_full (holdsT d (hasB s)) is)
            by_cases hend : thr ≤ (cnt (hasB s) ns : Int) + (cnt (holdsT d (hasB s)) is : Int)
            all_goals
              go_wp2_with fail
              go_ret
              exact ⟨by rw [HD.out]; simp [hend], by have h1 := HB1.out; rw [← hgw.out] at h1; exact bstep h1 hBr.out⟩

set_option maxHeartbeats 1000000 in
theorem rsat_run (P : Nat → Prop) (d : Nat) (T : Tree) (v0 v1 v2 : Value) (s : Nat) (w : World) (hs : s < 1024) (h : TAt P d w v0 v1 v2 T) :
    Calls Tryd.prog 11 #[.agg #[v0, v1, v2], .int .i64 (s : Int)] w fun e w' => e = .returned (.bool (satB d T (s : Int))) ∧ Below w.heap.size w w' := by
  have hv : setB (s : Int) = true := setB_iff.2 ⟨by omega, by omega⟩
  refine (rsatT_run P d T v0 v1 v2 (s : Int) w hv h).mono ?_
  rintro e w' ⟨rfl, hb⟩
  exact ⟨by unfold satB; rw [hv]; rfl, hb⟩

/-- The nodes of a set below n, ascending. -/
def nodL (s : Nat) : Nat → List Int
  | 0 => []
  | k + 1 => if s.testBit k then nodL s k ++ [(k : Int)] else nodL s k

theorem nodL_len (s : Nat) : ∀ k, (nodL s k).length ≤ k
  | 0 => by simp [nodL]
  | k + 1 => by
    have := nodL_len s k
    unfold nodL
    split
    · simp; omega
    · omega

theorem nodL_mem (s : Nat) : ∀ (n : Nat) (x : Int), x ∈ nodL s n ↔ ∃ k : Nat, x = (k : Int) ∧ k < n ∧ s.testBit k = true
  | 0, x => by simp [nodL]
  | n + 1, x => by
    have ih := nodL_mem s n x
    unfold nodL
    split
    · rename_i hb
      rw [List.mem_append, ih, List.mem_singleton]
      constructor
      · rintro (⟨k, e, h1, h2⟩ | e)
        · exact ⟨k, e, by omega, h2⟩
        · exact ⟨n, e, by omega, hb⟩
      · rintro ⟨k, e, h1, h2⟩
        rcases Nat.lt_or_ge k n with h3 | h3
        · exact .inl ⟨k, e, h3, h2⟩
        · obtain rfl : k = n := by omega
          exact .inr e
    · rename_i hb
      rw [ih]
      constructor
      · rintro ⟨k, e, h1, h2⟩; exact ⟨k, e, by omega, h2⟩
      · rintro ⟨k, e, h1, h2⟩
        refine ⟨k, e, ?_, h2⟩
        rcases Nat.lt_or_ge k n with h3 | h3
        · exact h3
        · obtain rfl : k = n := by omega
          exact (hb h2).elim

set_option maxRecDepth 100000 in
set_option maxHeartbeats 2000000 in
theorem rnodes_run (s : Nat) (w : World) (hs : s < 1024) :
    Calls Tryd.prog 40 #[.int .i64 (s : Int)] w fun e w' => ∃ v, e = .returned v ∧ NodesAt (fun b => w.heap.size ≤ b) w' v (nodL s 10) ∧ Below w.heap.size w w' := by
  obtain ⟨i0, hin, hz0, hz1, hz2⟩ := info_parts infoInt
  go_enter Tryd.func40, Tryd.ntmps40
  go_wp2_with fail
  go_loopw [3, 4] (fun v t W => ∃ (k : Nat) (vv : Value), k ≤ 10 ∧ v = vv ∧ t = .int .i64 k ∧ W.ownsRow w.heap.size 3 1 vv (nodL s k).length ((nodL s k).map (Value.int .i64)) ∧ Hid (Below w.heap.size w W)) (fun _ t _ => 10 - (intOf t).toNat)
  case atStart => exact ⟨0, .slice none 0 0, by omega, rfl, rfl, World.ownsRow_nil _ _ _ _, Lib.hid (bref _)⟩
  case round =>
    obtain ⟨k, v, hk, rfl, rfl, hown, hB⟩ := hrel
    have hlen := nodL_len s k
    by_cases hlt : k < 10
    · have hbs := hB.out.size
      have hbit := hasB_bit hs hlt
      cases hb : s.testBit k
      · rw [hb] at hbit
        have hn := Lib.hid (show nodL s (k + 1) = nodL s k by show (if s.testBit k then _ else _) = _; rw [hb]; rfl)
        have HOWN := Lib.hid hown
        go_wp2_with fail
        refine (rhas_run _ _ _).mono ?_
        rintro e w2 ⟨rfl, rfl⟩
        rw [hbit]
        go_wp2_with fail
        go_roundw
        case rel => exact ⟨k + 1, _, by omega, rfl, by go_num, by rw [hn.out]; exact HOWN.out, hB⟩
        case measure => simp [intOf]; omega
      · rw [hb] at hbit
        have hn := Lib.hid (show nodL s (k + 1) = nodL s k ++ [(k : Int)] by show (if s.testBit k then _ else _) = _; rw [hb]; rfl)
        go_wp2_with fail
        refine (rhas_run _ _ _).mono ?_
        rintro e w2 ⟨rfl, rfl⟩
        rw [hbit]
        go_wp2_with (at_builtin; refine wpList_append_own _ rfl _ _ 22 rfl w.heap.size 3 i0 (.int .i64 0) 1 8 Tryd.underlying22 hin hz0 hz1 hz2 rfl (by decide) _ _ _ rfl (hown.alloc _) ⟨wr.heap.size, 0, none⟩ 1 1 [.int .i64 (k : Int)] rfl rfl (cell_one_new _ _ _) (fun u hu => by simp at hu; subst hu; rfl) (by unfold maxLen; omega) (by omega) (by simp; omega) ?_; intro v' w1 hown' hgrow hnil)
        have HO := Lib.hid (own_snoc hown')
        have HB4 := Lib.hid (Below.grown (balloc hB.out (.cells #[.int .i64 (k : Int)] 3)) hgrow (by simp; omega) (fun j hj => (hown.lt j hj).1))
        clear hown' hgrow hnil hown
        go_roundw
        case rel => exact ⟨k + 1, _, by omega, rfl, by go_num, by rw [hn.out]; simpa using HO.out, HB4⟩
        case measure => simp [intOf]; omega
    · obtain rfl : k = 10 := by omega
      have HN := Lib.hid (NodesAt.of_own hown)
      obtain ⟨Av, cv, hv⟩ := own_slice hown
      subst hv
      clear hown
      go_wp2_with fail
      go_ret
      exact ⟨_, rfl, HN.out, hB.out⟩

set_option maxRecDepth 100000 in
set_option maxHeartbeats 4000000 in
theorem rdeclared_run (P : Nat → Prop) (d : Nat) (ms : List Mem) (v : Value) (w : World) (hl : ms.length ≤ 10) (h : MemsAt P d w v ms) :
    Calls Tryd.prog 20 #[.agg #[v]] w fun e w' => e = .returned (.int .i64 (declS ms ms.length : Nat)) ∧ Below w.heap.size w w' := by
  obtain ⟨A, c, rfl⟩ := h.slice
  have hb1 : Below w.heap.size w (w.alloc (.cells #[.slice A ms.length c] 40)) := balloc (bref w) _
  have k0 : (w.alloc (.cells #[.slice A ms.length c] 40)).heap[w.heap.size]? = some (.cells #[.slice A ms.length c] 40 (0, 0)) := alloc_at rfl
  have H := Lib.hid (h.below hb1)
  have HB := Lib.hid hb1
  have K0 := Lib.hid k0
  clear h hb1 k0
  go_enter Tryd.func20, Tryd.ntmps20
  go_upto_region 1 with fail
  generalize w.alloc (.cells #[.slice A ms.length c] 40) = W1 at *
  generalize hg : w.heap.size = g at *
  have HG := Lib.hid hg
  clear hg
  have c0 : W1.cell? ⟨g, 0, none⟩ = some (.slice A ms.length c) := cell_of_row _ _ 0 _ _ (0, 0) K0.out
  go_wp2_with fail
  go_loopw [3, 9] (fun s t W => ∃ k : Nat, k ≤ ms.length ∧ s = .int .i64 (declS ms k : Nat) ∧ t = .int .i64 k ∧ Hid (Below W1.heap.size W1 W)) (fun _ t _ => ms.length - (intOf t).toNat)
  case atStart => exact ⟨0, by omega, rfl, rfl, Lib.hid (bref _)⟩
  case round =>
    obtain ⟨k, hk, rfl, rfl, hB⟩ := hrel
    by_cases hlt : k < ms.length
    · obtain ⟨m, hm⟩ : ∃ m, ms[k]? = some m := ⟨_, List.getElem?_eq_getElem hlt⟩
      obtain ⟨b, off, t, A1, n1, c1, A2, n2, c2, rfl, hP, hbl, e0, e1, e2, e3, hT⟩ := memBox (H.out.below hB.out) hm
      have HDS := Lib.hid (show declS ms (k + 1) = if m.1 then declS ms k ||| 2 ^ k else declS ms k by
        show (if (ms.getD k (false, .mk 0 [] [])).1 then _ else _) = _
        rw [List.getD_eq_getElem?_getD, hm]; rfl)
      have hdl := declS_lt ms k (by omega)
      have HOR := Lib.hid (shl_or (declS ms k) k (by omega) (by omega))
      obtain ⟨dec, T⟩ := m
      clear hm hT
      generalize declS ms k = D at *
      have hk10 : (k : Int) < 10 := by omega
      cases dec
      · rw [if_neg (by simp)] at HDS
        go_wp2_with fail
        go_roundw
        case rel => exact ⟨k + 1, by omega, by rw [HDS.out], by go_num, Lib.hid (balloc hB.out _)⟩
        case measure => simp [intOf]; omega
      · rw [if_pos rfl] at HDS
        go_wp2_with fail
        rw [HOR.out]
        go_roundw
        case rel => exact ⟨k + 1, by omega, by rw [HDS.out], by go_num, Lib.hid (balloc hB.out _)⟩
        case measure => simp [intOf]; omega
    · obtain rfl : k = ms.length := by omega
      go_wp2_with fail
      go_ret
      exact ⟨rfl, by
        have h1 := HB.out
        rw [← HG.out] at h1
        exact bstep h1 hB.out⟩

end Go.Proofs.YtcngpfffhjbiaaaDoor

namespace Go.Proofs.YtcngpfffhjbiaaaDoor
set_option linter.unusedVariables false
open Go.RowKit

theorem declS_bit {ms : List Mem} : ∀ {n k : Nat}, (declS ms n).testBit k = true → k < n
  | 0, k, h => by simp [declS] at h
  | n + 1, k, h => by
    unfold declS at h
    split at h
    · rw [Nat.testBit_or, Bool.or_eq_true] at h
      rcases h with h | h
      · have := declS_bit h; omega
      · rw [Nat.testBit_two_pow] at h
        have : n = k := by simpa using h
        omega
    · have := declS_bit h; omega

theorem gr_uniq {d : Nat} {ms : List Mem} {S G H : Nat} (hG : G < 1024) (hH : H < 1024) (h1 : IsGr d ms S G) (h2 : IsGr d ms S H) : G = H :=
  sub_antisymm (h2.most G hG h1.sub h1.closed) (h1.most H hH h2.sub h2.closed)

/-- A shorter order leaves a node that has to go. -/
theorem elim_cut {d : Nat} {ms : List Mem} : ∀ (l : List Int) (s r : Nat), ElimR d ms s l r → l ≠ [] → ∃ r' k, ElimR d ms s l.dropLast r' ∧ k < ms.length ∧ uns d ms r' k = true
  | [], _, _, _, h => absurd rfl h
  | [x], s, r, ⟨k, _, hk, hu, _⟩, _ => ⟨s, k, rfl, hk, hu⟩
  | x :: y :: l, s, r, ⟨k, e, hk, hu, h2⟩, _ => by
    obtain ⟨r', j, h3, h4, h5⟩ := elim_cut (y :: l) _ r h2 (by simp)
    exact ⟨r', j, ⟨k, e, hk, hu, h3⟩, h4, h5⟩

theorem nodes_pre {P : Nat → Prop} {w : World} {A : Option Addr} {c n : Nat} {l : List Int} (h : NodesAt P w (.slice A l.length c) l) (hn : l.length = n + 1) : NodesAt P w (.slice A n c) l.dropLast := by
  obtain ⟨A', c', h1, h2⟩ := h
  cases h1
  have hd : l.dropLast.length = n := by rw [List.length_dropLast]; omega
  refine ⟨A, c, by rw [hd], fun k hk => ?_⟩
  rw [hd] at hk
  obtain ⟨b, off, e1, e2, e3⟩ := h2 k (by omega)
  refine ⟨b, off, e1, e2, ?_⟩
  have : l.dropLast.getD k 0 = l.getD k 0 := by
    rw [List.getD_eq_getElem?_getD, List.getD_eq_getElem?_getD, List.getElem?_eq_getElem (by omega), List.getElem?_eq_getElem (by omega), List.getElem_dropLast]
  rw [this]; exact e3

/-- What the candidates are: nodes that have to go; none only if none has. -/
def CanOk (d : Nat) (ms : List Mem) (left : Nat) (ns : List Int) (j : Nat) (cs : List Int) : Prop :=
  (∀ x ∈ cs, ∃ k : Nat, x = (k : Int) ∧ k < ms.length ∧ uns d ms left k = true) ∧ (cs = [] → ∀ i k : Nat, i < j → ns[i]? = some (k : Int) → uns d ms left k = false)

theorem CanOk.skip {d : Nat} {ms : List Mem} {left j k : Nat} {ns cs : List Int} (h : CanOk d ms left ns j cs) (hn : ns[j]? = some (k : Int)) (hu : uns d ms left k = false) : CanOk d ms left ns (j + 1) cs := by
  refine ⟨h.1, fun e i q hi hq => ?_⟩
  rcases Nat.lt_or_ge i j with h1 | h1
  · exact h.2 e i q h1 hq
  · obtain rfl : i = j := by omega
    rw [hn] at hq
    have : k = q := by have := Option.some.inj hq; omega
    rw [← this]; exact hu

theorem CanOk.add {d : Nat} {ms : List Mem} {left j k : Nat} {ns cs : List Int} (h : CanOk d ms left ns j cs) (hk : k < ms.length) (hu : uns d ms left k = true) : CanOk d ms left ns (j + 1) (cs ++ [(k : Int)]) := by
  refine ⟨fun x hx => ?_, fun e => by simp at e⟩
  rcases List.mem_append.1 hx with h1 | h1
  · exact h.1 x h1
  · rw [List.mem_singleton] at h1
    exact ⟨k, h1, hk, hu⟩

theorem CanOk.closed {d : Nat} {ms : List Mem} {left : Nat} (hl : ms.length ≤ 10) (hs : left < 1024) (h : CanOk d ms left (nodL left 10) (nodL left 10).length []) : Closed d ms left := by
  intro k hk
  cases hb : left.testBit k
  · unfold uns; rw [hasB_bit hs (by omega), hb]; rfl
  · have hm : (k : Int) ∈ nodL left 10 := (nodL_mem left 10 _).2 ⟨k, rfl, by omega, hb⟩
    obtain ⟨i, hi, he⟩ := List.getElem_of_mem hm
    exact h.2 rfl i k hi (by rw [List.getElem?_eq_getElem hi, he])

theorem left_sub (r k : Nat) (hr : r < 1024) (hk : k < 10) (hb : r.testBit k = true) : IntKind.i64.wrap ((r : Int) - wrap64 (2 ^ k)) = ((r - 2 ^ k : Nat) : Int) := by
  have all : ∀ r : Fin 1024, ∀ k : Fin 10, r.val.testBit k.val = true → IntKind.i64.wrap ((r.val : Int) - wrap64 (2 ^ k.val)) = ((r.val - 2 ^ k.val : Nat) : Int) := by decide +kernel
  exact all ⟨r, hr⟩ ⟨k, hk⟩ hb

end Go.Proofs.YtcngpfffhjbiaaaDoor

namespace Go.Proofs.YtcngpfffhjbiaaaDoor
set_option linter.unusedVariables false
set_option linter.unusedSimpArgs false
open Go.RowKit

theorem and_self_sub {a b : Nat} : a &&& b = a ↔ Sub a b := by
  constructor
  · intro h k hk
    rw [← h, Nat.testBit_and, Bool.and_eq_true] at hk
    exact hk.2
  · intro h
    apply Nat.eq_of_testBit_eq
    intro k
    rw [Nat.testBit_and]
    cases hb : a.testBit k
    · rfl
    · rw [h k hb]; rfl

set_option maxRecDepth 100000 in
set_option maxHeartbeats 4000000 in
theorem rquorum_run (P : Nat → Prop) (d : Nat) (ms : List Mem) (v : Value) (s : Nat) (w : World) (hl : ms.length ≤ 10) (hs : s < 1024) (h : MemsAt P d w v ms) :
    Calls Tryd.prog 22 #[.agg #[v], .int .i64 (s : Int)] w fun e w' => ∃ b : Bool, e = .returned (.bool b) ∧ (b = true ↔ s ≠ 0 ∧ Sub s (declS ms ms.length) ∧ Closed d ms s) ∧ Below w.heap.size w w' := by
  obtain ⟨A, c, rfl⟩ := h.slice
  have hb1 : Below w.heap.size w (w.alloc (.cells #[.slice A ms.length c] 40)) := balloc (bref w) _
  have k0 : (w.alloc (.cells #[.slice A ms.length c] 40)).heap[w.heap.size]? = some (.cells #[.slice A ms.length c] 40 (0, 0)) := alloc_at rfl
  have H := Lib.hid (h.below hb1)
  have HB := Lib.hid hb1
  have K0 := Lib.hid k0
  have hsv := Lib.hid (show setB (s : Int) = true from setB_iff.2 ⟨by omega, by omega⟩)
  have hdl := declS_lt ms ms.length hl
  clear h hb1 k0
  go_enter Tryd.func22, Tryd.ntmps22
  go_upto_region 1 with fail
  generalize w.alloc (.cells #[.slice A ms.length c] 40) = W1 at *
  generalize hg : w.heap.size = g at *
  have HG := Lib.hid hg
  clear hg
  have c0 : W1.cell? ⟨g, 0, none⟩ = some (.slice A ms.length c) := cell_of_row _ _ 0 _ _ (0, 0) K0.out
  have hgl := cell_lt c0
  have HBw := Lib.hid (show Below w.heap.size w W1 by rw [HG.out]; exact HB.out)
  by_cases h0 : s = 0
  · subst h0
    go_wp2_with fail
    refine (rsetValid_run _ _).mono ?_
    rintro e w2 ⟨rfl, rfl⟩
    rw [show setB (0 : Int) = true from rfl]
    go_wp2_with fail
    go_ret
    exact ⟨false, rfl, by simp, HBw.out⟩
  · have hne : ((s : Int) == 0) = false := by simpa using h0
    go_wp2_with fail
    refine (rsetValid_run _ _).mono ?_
    rintro e w2 ⟨rfl, rfl⟩
    rw [hsv.out]
    go_wp2_with fail
    refine (rdeclared_run _ d ms _ _ hl H.out).mono ?_
    rintro e W2 ⟨rfl, hb2⟩
    have HB2 := Lib.hid hb2
    have d0 := (hb2.cell hgl).trans c0
    clear hb2 c0
    have HDB := Lib.hid (fun k (h : (declS ms ms.length).testBit k = true) => declS_bit h)
    generalize hD : declS ms ms.length = D at *
    have HDD := Lib.hid hD
    clear hD
    have han := i64_and_nat s D (by omega) (by omega)
    by_cases hsub : Sub s D
    · rw [and_self_sub.2 hsub] at han
      go_wp2_with fail
      refine (rnodes_run s _ hs).mono ?_
      rintro e W5 ⟨nv, rfl, hN, hb5⟩
      have HB5 := Lib.hid (bstep HB2.out hb5)
      have hnl := nodL_len s 10
      obtain ⟨nl, hnq⟩ : ∃ nl, nodL s 10 = nl := ⟨_, rfl⟩
      have HNL := Lib.hid hnq
      rw [hnq] at hN hnl
      obtain ⟨An, cn, rfl, hNc⟩ := hN
      have HNC := Lib.hid hNc
      have H0 := Lib.hid (And.intro h0 hsub)
      clear hb5 hNc hnq d0 han hne
      go_wp2_with fail
      go_loopw [25] (fun t W => ∃ j : Nat, j ≤ nl.length ∧ t = .int .i64 j ∧ Hid (∀ i k : Nat, i < j → nl[i]? = some (k : Int) → uns d ms s k = false) ∧ Hid (Below W5.heap.size W5 W)) (fun t _ => nl.length - (intOf t).toNat)
      case atStart => exact ⟨0, by omega, rfl, Lib.hid (fun i k hi => by omega), Lib.hid (bref _)⟩
      case round =>
        obtain ⟨j, hj, rfl, hNo, hB⟩ := hrel
        have hgl5 : g < W5.heap.size := Nat.lt_of_lt_of_le hgl HB5.out.size
        have c1 : wr.cell? ⟨g, 0, none⟩ = some (.slice A ms.length c) := ((bstep HB5.out hB.out).cell hgl).trans (cell_of_row _ _ 0 _ _ (0, 0) K0.out)
        by_cases hlt : j < nl.length
        · obtain ⟨b, off, rfl, _, hc⟩ := HNC.out j hlt
          have hx0 : nl[j]? = some (nl.getD j 0) := by rw [List.getD_eq_getElem?_getD, List.getElem?_eq_getElem hlt]; rfl
          obtain ⟨k, hk, hk10, hbit⟩ := (nodL_mem s 10 (nl.getD j 0)).1 (by rw [HNL.out]; exact List.mem_of_getElem? hx0)
          rw [hk] at hc hx0
          have HX0 := Lib.hid hx0
          clear hk hx0
          have hkm := HDB.out k (hsub k hbit)
          obtain ⟨m, hm⟩ : ∃ m, ms[k]? = some m := ⟨_, List.getElem?_eq_getElem hkm⟩
          have d1 := (hB.out.cell (cell_lt hc)).trans hc
          obtain ⟨bm, om, t, A1, n1, c1', A2, n2, c2, hA, hP, hbl, e0, e1, e2, e3, hT⟩ := memBox (H.out.below (bstep HB5.out hB.out)) hm
          subst hA
          have htr : trOf ms k = m.2 := by unfold trOf; rw [List.getD_eq_getElem?_getD, hm]; rfl
          obtain ⟨dec, T⟩ := m
          have HUN := Lib.hid (show uns d ms s k = !satB d T (s : Int) by unfold uns; rw [htr, hasB_bit hs hk10, hbit]; rfl)
          have HTm := Lib.hid hT
          clear hm htr hT hbit hc e0
          go_wp2_with fail
          refine (rsat_run _ d T _ _ _ s _ hs HTm.out).mono ?_
          rintro e W6 ⟨rfl, hb6⟩
          have HB6 := Lib.hid (bstep hB.out hb6)
          clear hb6 c1
          cases hsat : satB d T (s : Int)
          · have HU := Lib.hid (show ¬ (s ≠ 0 ∧ Sub s D ∧ Closed d ms s) from fun h => by
              have h1 := h.2.2 k hkm
              rw [HUN.out, hsat] at h1; cases h1)
            have HZ := Lib.hid (bstep HBw.out (bstep HB5.out HB6.out))
            clear hsat
            go_wp2_with fail
            go_ret
            exact ⟨false, rfl, by rw [HDD.out]; exact ⟨fun h => (by cases h), fun h => (HU.out h).elim⟩, HZ.out⟩
          · have HN2 := Lib.hid (show ∀ i q : Nat, i < j + 1 → nl[i]? = some (q : Int) → uns d ms s q = false from fun i q hi hq => by
              rcases Nat.lt_or_ge i j with h1 | h1
              · exact hNo.out i q h1 hq
              · obtain rfl : i = j := by omega
                rw [HX0.out] at hq
                have : k = q := by have := Option.some.inj hq; omega
                rw [← this, HUN.out, hsat]; rfl)
            clear hsat
            go_wp2_with fail
            go_roundw
            case rel => exact ⟨j + 1, by omega, by go_num, HN2, HB6⟩
            case measure => simp [intOf]; omega
        · obtain rfl : j = nl.length := by omega
          have HC := Lib.hid (show Closed d ms s from fun k hk => by
            cases hb : s.testBit k
            · unfold uns; rw [hasB_bit hs (by omega), hb]; rfl
            · have hm : (k : Int) ∈ nodL s 10 := (nodL_mem s 10 _).2 ⟨k, rfl, by omega, hb⟩
              rw [HNL.out] at hm
              obtain ⟨i, hi, he⟩ := List.getElem_of_mem hm
              exact hNo.out i k hi (by rw [List.getElem?_eq_getElem hi, he]))
          have HZ := Lib.hid (bstep HBw.out (bstep HB5.out hB.out))
          go_wp2_with fail
          go_ret
          exact ⟨true, rfl, by rw [HDD.out]; exact ⟨fun _ => ⟨H0.out.1, H0.out.2, HC.out⟩, fun _ => rfl⟩, HZ.out⟩
    · have hz : s &&& D ≠ s := fun h => hsub (and_self_sub.1 h)
      obtain ⟨q, hq⟩ : ∃ q, s &&& D = q := ⟨_, rfl⟩
      rw [hq] at han hz
      clear hq
      have hxb : ((q : Int) != (s : Int)) = true := by simp; omega
      have hF := Lib.hid (show ¬ (s ≠ 0 ∧ Sub s D ∧ Closed d ms s) from fun h => hsub h.2.1)
      have HB3 := Lib.hid (bstep HBw.out HB2.out)
      clear hsub
      go_wp2_with fail
      go_ret
      exact ⟨false, rfl, by rw [HDD.out]; exact ⟨fun h => (by cases h), fun h => (hF.out h).elim⟩, HB3.out⟩

end Go.Proofs.YtcngpfffhjbiaaaDoor

namespace Go.Proofs.YtcngpfffhjbiaaaDoor
set_option linter.unusedVariables false
set_option linter.unusedSimpArgs false
open Go.RowKit

theorem rsub64 (r k : Nat) (hr : r < 1024) (hk : k < 10) (hb : r.testBit k = true) : wrap64 ((r : Int) - wrap64 (2 ^ k)) = ((r - 2 ^ k : Nat) : Int) := by
  have all : ∀ r : Fin 1024, ∀ k : Fin 10, r.val.testBit k.val = true → wrap64 ((r.val : Int) - wrap64 (2 ^ k.val)) = ((r.val - 2 ^ k.val : Nat) : Int) := by decide +kernel
  exact all ⟨r, hr⟩ ⟨k, hk⟩ hb

def elimM (a : Value) (r : Int) : Nat := match a with
  | .bool true => r.toNat + 1
  | _ => 0

set_option maxRecDepth 100000 in
set_option maxHeartbeats 4000000 in
theorem relim_run (P : Nat → Prop) (d : Nat) (ms : List Mem) (v : Value) (s : Nat) (w : World) (hl : ms.length ≤ 10) (hs : s < 1024) (h : MemsAt P d w v ms) :
    Calls Tryd.prog 39 #[.agg #[v], .int .i64 (s : Int)] w fun e w' => ∃ (gv : Value) (gs : List Int) (G : Nat), e = .returned gv ∧ NodesAt (fun b => w.heap.size ≤ b) w' gv gs ∧ G < 1024 ∧ gs.length ≤ 1023 ∧ ElimR d ms (s &&& declS ms ms.length) gs G ∧ IsGr d ms (s &&& declS ms ms.length) G ∧ Below w.heap.size w w' := by
  obtain ⟨i0, hin, hz0, hz1, hz2⟩ := info_parts infoInt
  have hsv := Lib.hid (show setB (s : Int) = true from setB_iff.2 ⟨by omega, by omega⟩)
  have hdl := declS_lt ms ms.length hl
  have HAND := Lib.hid (i64_and_nat s (declS ms ms.length) (by omega) (by omega))
  obtain ⟨A, c, rfl⟩ := h.slice
  have hb1 : Below w.heap.size w (w.alloc (.cells #[.slice A ms.length c] 40)) := balloc (bref w) _
  have k0 : (w.alloc (.cells #[.slice A ms.length c] 40)).heap[w.heap.size]? = some (.cells #[.slice A ms.length c] 40 (0, 0)) := alloc_at rfl
  have H := Lib.hid (h.below hb1)
  have HB := Lib.hid hb1
  have K0 := Lib.hid k0
  clear h hb1 k0
  go_enter Tryd.func39, Tryd.ntmps39
  go_upto_region 1 with fail
  generalize w.alloc (.cells #[.slice A ms.length c] 40) = W1 at *
  generalize hg : w.heap.size = g at *
  have HG := Lib.hid hg
  clear hg
  have c0 : W1.cell? ⟨g, 0, none⟩ = some (.slice A ms.length c) := cell_of_row _ _ 0 _ _ (0, 0) K0.out
  have hgl := cell_lt c0
  have HBw := Lib.hid (show Below w.heap.size w W1 by rw [HG.out]; exact HB.out)
  go_wp2_with fail
  refine (rsetValid_run _ _).mono ?_
  rintro e w2 ⟨rfl, rfl⟩
  rw [hsv.out]
  go_wp2_with fail
  refine (rdeclared_run _ d ms _ _ hl H.out).mono ?_
  rintro e W2 ⟨rfl, hb2⟩
  have HB2 := Lib.hid hb2
  clear hb2 c0
  have HDB := Lib.hid (fun k (h : (declS ms ms.length).testBit k = true) => declS_bit h)
  generalize hD : declS ms ms.length = D at *
  have HDD := Lib.hid hD
  clear hD
  have hSl : s &&& D < 1024 := Nat.lt_of_le_of_lt Nat.and_le_left hs
  have HSB := Lib.hid (fun k (h : (s &&& D).testBit k = true) => (sub_and.1 (fun i (hi : (s &&& D).testBit i = true) => hi)).2 k h)
  generalize hS : s &&& D = S at *
  have HSS := Lib.hid hS
  clear hS
  go_wp2_with fail
  rw [HAND.out]
  go_loopw [5, 6, 7] (fun lv gv av W => ∃ (left : Nat) (gs : List Int) (gw : Value) (again : Bool), lv = .int .i64 (left : Int) ∧ gv = gw ∧ av = .bool again ∧ W.ownsRow W1.heap.size 3 1 gw gs.length (gs.map (Value.int .i64)) ∧ Hid (ElimAt d ms S gs left) ∧ Hid (again = false → Closed d ms left) ∧ Hid (Below W1.heap.size W1 W)) (fun lv _ av _ => elimM av (intOf lv))
  case atStart => exact ⟨S, [], .slice none 0 0, true, rfl, rfl, rfl, World.ownsRow_nil _ _ _ _, Lib.hid (ElimAt.first hSl), Lib.hid (fun h => by cases h), HB2⟩
  case round =>
    obtain ⟨left, gs, gw, again, rfl, hgw, rfl, hown, hE, hCl, hB⟩ := hrel
    replace hgw := hgw.symm
    subst hgw
    have hll := hE.out.lt
    have hlen := hE.out.len
    cases again
    · have hcl := hCl.out rfl
      have HF := Lib.hid (And.intro (nodes_imp (Q := fun b => w.heap.size ≤ b) (NodesAt.of_own hown) (fun k hP => by have h1 := HG.out; have := hgl; omega)) (And.intro hll (And.intro (show gs.length ≤ 1023 by omega) (And.intro hE.out.elim (And.intro (hE.out.gr hcl) (bstep HBw.out hB.out))))))
      clear hcl hCl
      obtain ⟨Av, cv, rfl⟩ := own_slice hown
      clear hown
      go_wp2_with fail
      go_ret
      refine ⟨_, gs, left, rfl, ?_⟩
      rw [HDD.out, HSS.out]
      exact HF.out
    · have HOWN := Lib.hid hown
      clear hown hCl
      go_wp2_with fail
      refine (rnodes_run left _ hll).mono ?_
      rintro e W5 ⟨nv, rfl, hN, hb5⟩
      have HOWN5 := Lib.hid (own_bel HOWN.out hb5)
      have HB5 := Lib.hid (bstep hB.out hb5)
      have hnl := nodL_len left 10
      obtain ⟨nl, hnq⟩ : ∃ nl, nodL left 10 = nl := ⟨_, rfl⟩
      have HNL := Lib.hid hnq
      rw [hnq] at hN hnl
      obtain ⟨An, cn, rfl, hNc⟩ := hN
      have HNC := Lib.hid hNc
      have hgl5 : W1.heap.size ≤ W5.heap.size := HB5.out.size
      clear hb5 HOWN hNc hnq hB
      go_wp2_with fail
      go_loopw [5, 6, 7, 21] (fun lv gv av t W => ∃ j : Nat, j ≤ nl.length ∧ lv = .int .i64 (left : Int) ∧ gv = gw ∧ av = .bool false ∧ t = .int .i64 j ∧ Hid (∀ i k : Nat, i < j → nl[i]? = some (k : Int) → uns d ms left k = false) ∧ Hid (Below W5.heap.size W5 W)) (fun _ _ _ t _ => nl.length - (intOf t).toNat)
      case atStart => exact ⟨0, by omega, rfl, rfl, rfl, rfl, Lib.hid (fun i k hi => by omega), Lib.hid (bref _)⟩
      case round =>
        obtain ⟨j, hj, rfl, hgv, rfl, rfl, hNo, hB⟩ := hrel
        subst hgv
        have c1 : wr.cell? ⟨g, 0, none⟩ = some (.slice A ms.length c) := ((bstep HB5.out hB.out).cell hgl).trans (cell_of_row _ _ 0 _ _ (0, 0) K0.out)
        by_cases hlt : j < nl.length
        · obtain ⟨b, off, rfl, _, hc⟩ := HNC.out j hlt
          have hx0 : nl[j]? = some (nl.getD j 0) := by rw [List.getD_eq_getElem?_getD, List.getElem?_eq_getElem hlt]; rfl
          obtain ⟨k, hk, hk10, hbit⟩ := (nodL_mem left 10 (nl.getD j 0)).1 (by rw [HNL.out]; exact List.mem_of_getElem? hx0)
          rw [hk] at hc hx0
          have HX0 := Lib.hid hx0
          clear hk hx0
          have hkm := HDB.out k (HSB.out k (hE.out.sub k hbit))
          obtain ⟨m, hm⟩ : ∃ m, ms[k]? = some m := ⟨_, List.getElem?_eq_getElem hkm⟩
          have d1 := (hB.out.cell (cell_lt hc)).trans hc
          obtain ⟨bm, om, t, A1, n1, c1', A2, n2, c2, hA, hP, hbl, e0, e1, e2, e3, hT⟩ := memBox (H.out.below (bstep HB5.out hB.out)) hm
          subst hA
          have htr : trOf ms k = m.2 := by unfold trOf; rw [List.getD_eq_getElem?_getD, hm]; rfl
          obtain ⟨dec, T⟩ := m
          have HUN := Lib.hid (show uns d ms left k = !satB d T (left : Int) by unfold uns; rw [htr, hasB_bit hll hk10, hbit]; rfl)
          have HTm := Lib.hid hT
          clear hm htr hT hc e0
          go_wp2_with fail
          refine (rsat_run _ d T _ _ _ left _ hll HTm.out).mono ?_
          rintro e W6 ⟨rfl, hb6⟩
          have HB6 := Lib.hid (bstep hB.out hb6)
          clear hb6 c1
          cases hsat : satB d T (left : Int)
          · have hU : uns d ms left k = true := by rw [HUN.out, hsat]; rfl
            obtain ⟨_, hE2⟩ := hE.out.step hl hkm hU
            have HE2 := Lib.hid hE2
            have HSUB := Lib.hid (rsub64 left k hll hk10 hbit)
            have hle := bit_le hbit
            have hp : 1 ≤ 2 ^ k := Nat.one_le_pow _ _ (by omega)
            have hrn : left - 2 ^ k < left := by omega
            have hk0 : (0 : Int) ≤ (k : Int) := by omega
            have hown6 := own_bel HOWN5.out HB6.out
            have hbs := HB6.out.size
            clear hsat hU hE2 hbit
            go_wp2_with (at_builtin; refine wpList_append_own _ rfl _ _ 22 rfl W1.heap.size 3 i0 (.int .i64 0) 1 8 Tryd.underlying22 hin hz0 hz1 hz2 rfl (by decide) _ _ _ rfl (hown6.alloc _) ⟨W6.heap.size, 0, none⟩ 1 1 [.int .i64 (k : Int)] rfl rfl (cell_one_new _ _ _) (fun u hu => by simp at hu; subst hu; rfl) (by unfold maxLen; omega) (by omega) (by simp; omega) ?_; intro v' w1 hown' hgrow hnil)
            have HO := Lib.hid (own_snoc hown')
            have HB7 := Lib.hid (Below.grown (balloc (bstep HB5.out HB6.out) (.cells #[.int .i64 (k : Int)] 3)) hgrow (by simp; omega) (fun q hq => (hown6.lt q hq).1))
            clear hown' hgrow hnil hown6
            try rw [HSUB.out]
            go_roundw
            case rel => exact ⟨left - 2 ^ k, gs ++ [(k : Int)], _, true, rfl, rfl, rfl, by simpa using HO.out, HE2, Lib.hid (fun h => by cases h), HB7⟩
            case measure => simp [intOf, elimM]; omega
          · have HN2 := Lib.hid (show ∀ i q : Nat, i < j + 1 → nl[i]? = some (q : Int) → uns d ms left q = false from fun i q hi hq => by
              rcases Nat.lt_or_ge i j with h1 | h1
              · exact hNo.out i q h1 hq
              · obtain rfl : i = j := by omega
                rw [HX0.out] at hq
                have : k = q := by have := Option.some.inj hq; omega
                rw [← this, HUN.out, hsat]; rfl)
            clear hsat hbit
            go_wp2_with fail
            go_roundw
            case rel => exact ⟨j + 1, by omega, rfl, rfl, rfl, by go_num, HN2, HB6⟩
            case measure => simp [intOf]; omega
        · obtain rfl : j = nl.length := by omega
          have HC := Lib.hid (show Closed d ms left from fun k hk => by
            cases hb : left.testBit k
            · unfold uns; rw [hasB_bit hll (by omega), hb]; rfl
            · have hm : (k : Int) ∈ nodL left 10 := (nodL_mem left 10 _).2 ⟨k, rfl, by omega, hb⟩
              rw [HNL.out] at hm
              obtain ⟨i, hi, he⟩ := List.getElem_of_mem hm
              exact hNo.out i k hi (by rw [List.getElem?_eq_getElem hi, he]))
          have HOW := Lib.hid (own_bel HOWN5.out hB.out)
          have HBB := Lib.hid (bstep HB5.out hB.out)
          clear c1
          go_wp2_with fail
          go_roundw
          case rel => exact ⟨left, gs, _, false, rfl, rfl, rfl, HOW.out, hE, Lib.hid (fun _ => HC.out), HBB⟩
          case measure => simp [intOf, elimM]

set_option maxRecDepth 100000 in
set_option maxHeartbeats 2000000 in
theorem rgreatest_run (P : Nat → Prop) (d : Nat) (ms : List Mem) (v : Value) (s : Nat) (w : World) (hl : ms.length ≤ 10) (hs : s < 1024) (h : MemsAt P d w v ms) :
    Calls Tryd.prog 21 #[.agg #[v], .int .i64 (s : Int)] w fun e w' => ∃ G : Nat, e = .returned (.int .i64 (G : Int)) ∧ G < 1024 ∧ IsGr d ms (s &&& declS ms ms.length) G ∧ Below w.heap.size w w' := by
  have hsv := Lib.hid (show setB (s : Int) = true from setB_iff.2 ⟨by omega, by omega⟩)
  have hdl := declS_lt ms ms.length hl
  have HAND := Lib.hid (i64_and_nat s (declS ms ms.length) (by omega) (by omega))
  obtain ⟨A, c, rfl⟩ := h.slice
  have hb1 : Below w.heap.size w (w.alloc (.cells #[.slice A ms.length c] 40)) := balloc (bref w) _
  have k0 : (w.alloc (.cells #[.slice A ms.length c] 40)).heap[w.heap.size]? = some (.cells #[.slice A ms.length c] 40 (0, 0)) := alloc_at rfl
  have H := Lib.hid (h.below hb1)
  have HB := Lib.hid hb1
  have K0 := Lib.hid k0
  clear h hb1 k0
  go_enter Tryd.func21, Tryd.ntmps21
  go_upto_region 1 with fail
  generalize w.alloc (.cells #[.slice A ms.length c] 40) = W1 at *
  generalize hg : w.heap.size = g at *
  have HG := Lib.hid hg
  clear hg
  have c0 : W1.cell? ⟨g, 0, none⟩ = some (.slice A ms.length c) := cell_of_row _ _ 0 _ _ (0, 0) K0.out
  have hgl := cell_lt c0
  have HBw := Lib.hid (show Below w.heap.size w W1 by rw [HG.out]; exact HB.out)
  go_wp2_with fail
  refine (rsetValid_run _ _).mono ?_
  rintro e w2 ⟨rfl, rfl⟩
  rw [hsv.out]
  go_wp2_with fail
  refine (rdeclared_run _ d ms _ _ hl H.out).mono ?_
  rintro e W2 ⟨rfl, hb2⟩
  have HB2 := Lib.hid hb2
  have c2 := (hb2.cell hgl).trans c0
  clear hb2 c0
  have hSl : s &&& declS ms ms.length < 1024 := Nat.lt_of_le_of_lt Nat.and_le_left hs
  go_wp2_with fail
  rw [HAND.out]
  refine (relim_run _ d ms _ s _ hl hs (H.out.below HB2.out)).mono ?_
  rintro e W3 ⟨gv, gs, G, rfl, hN, hGl, hlen, hel, hgr, hb3⟩
  have HB3 := Lib.hid (bstep HB2.out hb3)
  have HGR := Lib.hid hgr
  have HEL := Lib.hid hel
  obtain ⟨Ag, cg, rfl, hNc⟩ := hN
  have HNC := Lib.hid hNc
  clear hb3 c2 hgr hel hNc
  obtain ⟨S, hS⟩ : ∃ S, s &&& declS ms ms.length = S := ⟨_, rfl⟩
  have HSS := Lib.hid hS
  rw [hS] at hSl
  clear hS
  have HEL1 := Lib.hid (show ElimR d ms S gs G by rw [← HSS.out]; exact HEL.out)
  clear HEL
  go_wp2_with fail
  rw [HSS.out]
  go_loopw [5, 19] (fun a t W => ∃ (j rest : Nat), j ≤ gs.length ∧ a = .int .i64 (rest : Int) ∧ t = .int .i64 j ∧ rest < 1024 ∧ Hid (ElimR d ms rest (gs.drop j) G) ∧ Hid (Below W3.heap.size W3 W)) (fun _ t _ => gs.length - (intOf t).toNat)
  case atStart => exact ⟨0, S, by omega, rfl, rfl, hSl, by simpa using HEL1, Lib.hid (bref _)⟩
  case round =>
    obtain ⟨j, rest, hj, rfl, rfl, hrl, hEl, hB⟩ := hrel
    by_cases hlt : j < gs.length
    · obtain ⟨b, off, rfl, _, hc⟩ := HNC.out j hlt
      have hel := hEl.out
      rw [drop_cons hlt] at hel
      obtain ⟨k, hx, hkm, hu, hel2⟩ := hel
      rw [hx] at hc
      have d1 := (hB.out.cell (cell_lt hc)).trans hc
      unfold uns at hu
      simp only [Bool.and_eq_true] at hu
      have hbit : rest.testBit k = true := by rw [← hasB_bit hrl (by omega)]; exact hu.1
      have HSUB := Lib.hid (rsub64 rest k hrl (by omega) hbit)
      have HEL2 := Lib.hid hel2
      have hrl2 : rest - 2 ^ k < 1024 := Nat.lt_of_le_of_lt (Nat.sub_le _ _) hrl
      have hk0 : (0 : Int) ≤ (k : Int) := by omega
      clear hc hx hu hel2 hbit
      go_wp2_with fail
      rw [HSUB.out]
      go_roundw
      case rel => exact ⟨j + 1, rest - 2 ^ k, by omega, rfl, by go_num, hrl2, HEL2, hB⟩
      case measure => simp [intOf]; omega
    · obtain rfl : j = gs.length := by omega
      have hrr := hEl.out
      rw [List.drop_length] at hrr
      obtain rfl : G = rest := hrr
      have HZ := Lib.hid (bstep HBw.out (bstep HB3.out hB.out))
      go_wp2_with fail
      go_ret
      exact ⟨G, rfl, hrl, HGR.out, HZ.out⟩

end Go.Proofs.YtcngpfffhjbiaaaDoor

namespace Go.Proofs.YtcngpfffhjbiaaaDoor
set_option linter.unusedVariables false
open Go.RowKit

/-- v is a slice of just these trusts. -/
def ListT (P : Nat → Prop) (d : Nat) (w : World) (v : Value) (is : List Tree) : Prop :=
  ∃ A c, v = .slice A is.length c ∧ ∀ k T, is[k]? = some T → ∃ b off x0 x1 x2, A = some ⟨b, off, none⟩ ∧ P b ∧ w.cell? ⟨b, off + k * 3, none⟩ = some x0 ∧ w.cell? ⟨b, off + k * 3 + 1, none⟩ = some x1 ∧ w.cell? ⟨b, off + k * 3 + 2, none⟩ = some x2 ∧ TAt P d w x0 x1 x2 T

/-- What a function over trusts does, where C holds of the trust. -/
def OneC (F : Nat) (d : Nat) (C : Tree → Prop) (f : Tree → Tree) : Prop :=
  ∀ (P : Nat → Prop) (T : Tree) (x0 x1 x2 : Value) (w : World), TAt P d w x0 x1 x2 T → C T →
    Calls Tryd.prog F #[.agg #[x0, x1, x2]] w fun e w' => ∃ y0 y1 y2, e = .returned (.agg #[y0, y1, y2]) ∧ TAt (fun b => w.heap.size ≤ b) d w' y0 y1 y2 (f T) ∧ Below w.heap.size w w'

set_option maxHeartbeats 2000000 in
set_option maxRecDepth 100000 in
theorem listTrust_run (d : Nat) (C : Tree → Prop) (f : Tree → Tree) (hF : OneC 27 d C f) (P : Nat → Prop) (v : Value) (is : List Tree) (w : World) (hn : is.length ≤ 1000000) (h : ListT P d w v is) (hC : ∀ T ∈ is, C T) :
    Calls Tryd.prog 44 #[v, .func (.func 27) #[] #[]] w fun e w' => ∃ v', e = .returned v' ∧ ListT (fun b => w.heap.size ≤ b) d w' v' (is.map f) ∧ Below w.heap.size w w' := by
  obtain ⟨i0, hi, hz0, hz1, hz2⟩ := info_parts infoTrust
  obtain ⟨A, c, rfl, h1⟩ := h
  have HF := Lib.hid hF
  have H1 := Lib.hid h1
  have HC := Lib.hid hC
  clear hF h1 hC
  by_cases h0 : is.length = 0
  · have hl0 : ((is.length : Int) == 0) = true := by rw [h0]; rfl
    have hE := Lib.hid (List.eq_nil_of_length_eq_zero h0)
    clear h0
    go_enter Tryd.func44, Tryd.ntmps44
    go_wp2_with fail
    go_ret
    exact ⟨_, rfl, ⟨none, 0, by rw [hE.out]; rfl, fun k T hT => by rw [hE.out] at hT; simp at hT⟩, bref _⟩
  · have hl0 : ((is.length : Int) == 0) = false := by rw [beq_eq_false_iff_ne]; omega
    go_enter Tryd.func44, Tryd.ntmps44
    go_wp2_with (at_make; refine wpList_make_full _ rfl _ _ 26 rfl w.heap.size 28 i0 (.agg #[.int .i64 0, .slice none 0 0, .slice none 0 0]) 3 Tryd.underlying26 hi hz0 hz1 .i64 .i64 _ _ is.length rfl rfl rfl rfl (by rw [hz2]; omega) (by unfold maxLen; omega) (Nat.le_refl _) ?_; intro w1 hown hgrow)
    have hcs1 := hown.1
    have HB1 := Lib.hid (show Below w.heap.size w w1 from (bref w).grown hgrow (Nat.le_refl _) (fun j hj => by cases hj))
    have hgl : w.heap.size < w1.heap.size := (hown.lt w.heap.size rfl).2
    go_loopw [16] (fun t wr => ∃ (k : Nat) (cs : List Value), k ≤ is.length ∧ t = .int .i64 k ∧ Hid (wr.ownsRow w.heap.size 28 3 (.slice (some ⟨w.heap.size, 0, none⟩) is.length is.length) is.length cs) ∧
      Hid (∀ j T, j < k → is[j]? = some T → ∃ y0 y1 y2, cs[j * 3]? = some y0 ∧ cs[j * 3 + 1]? = some y1 ∧ cs[j * 3 + 2]? = some y2 ∧ TAt (fun b => w.heap.size < b) d wr y0 y1 y2 (f T)) ∧ Hid (Below w.heap.size w wr)) (fun t _ => is.length - (intOf t).toNat)
    case atStart => exact ⟨0, _, by omega, rfl, Lib.hid hown, Lib.hid (fun j T hj => by omega), HB1⟩
    case round =>
      clear hown hgrow hcs1 HB1 hgl
      obtain ⟨k, cs, hk, rfl, hO, hY, hB⟩ := hrel
      have hcl := hO.out.1
      have hgl := (hO.out.lt w.heap.size rfl).2
      by_cases hlt : k < is.length
      · obtain ⟨T, hT⟩ : ∃ T, is[k]? = some T := ⟨_, List.getElem?_eq_getElem hlt⟩
        obtain ⟨b, off, x0, x1, x2, rfl, hPb, c0, c1, c2, hTk⟩ := H1.out k T hT
        obtain ⟨t', A', n', ca, B', m', cb, rfl, rfl, rfl⟩ := hTk.form
        have hbl := cell_lt c0
        simp only at hbl
        have e0 : wr.cell? ⟨b, off + k * 3, none⟩ = some (.int .i64 t') := (hB.out.cell (p := ⟨b, off + k * 3, none⟩) hbl).trans c0
        have e1 : wr.cell? ⟨b, off + k * 3 + 1, none⟩ = some (.slice A' n' ca) := (hB.out.cell (p := ⟨b, off + k * 3 + 1, none⟩) hbl).trans c1
        have e2 : wr.cell? ⟨b, off + k * 3 + 2, none⟩ = some (.slice B' m' cb) := (hB.out.cell (p := ⟨b, off + k * 3 + 2, none⟩) hbl).trans c2
        have hTr := Lib.hid ((hTk.below hB.out).below (balloc (bref wr) (.cells #[.int .i64 t', .slice A' n' ca, .slice B' m' cb] 28)))
        have hCT := Lib.hid (HC.out T (List.mem_of_getElem? hT))
        have HT := Lib.hid hT
        have hO1 := Lib.hid (hO.out.alloc (.cells #[.int .i64 t', .slice A' n' ca, .slice B' m' cb] 28))
        have hB1 := Lib.hid (balloc hB.out (.cells #[.int .i64 t', .slice A' n' ca, .slice B' m' cb] 28))
        clear c0 c1 c2 hTk hT
        go_wp2_with fail
        refine (HF.out P T _ _ _ _ hTr.out hCT.out).mono ?_
        rintro e w2 ⟨z0, z1, z2, rfl, hz, hb2⟩
        obtain ⟨t2, A2, n2, ca2, B2, m2, cb2, rfl, rfl, rfl⟩ := hz.form
        have hO2 := hO1.out.kept (grown_below (r := none) hb2) (.inr (by simp [Value.ownBlock]))
        have f0 : w2.cell? ⟨w.heap.size, k * 3, none⟩ = cs[k * 3]? := hO2.cellAt (k * 3) (by omega)
        have f1 : w2.cell? ⟨w.heap.size, k * 3 + 1, none⟩ = cs[k * 3 + 1]? := hO2.cellAt (k * 3 + 1) (by omega)
        have f2 : w2.cell? ⟨w.heap.size, k * 3 + 2, none⟩ = cs[k * 3 + 2]? := hO2.cellAt (k * 3 + 2) (by omega)
        rw [List.getElem?_eq_getElem (by omega)] at f0 f1 f2
        have g0 := hO2.frozenAt (k * 3)
        have g1 := hO2.frozenAt (k * 3 + 1)
        have g2 := hO2.frozenAt (k * 3 + 2)
        generalize cs[k * 3]'(by omega) = u0 at f0
        generalize cs[k * 3 + 1]'(by omega) = u1 at f1
        generalize cs[k * 3 + 2]'(by omega) = u2 at f2
        have hO3 := Lib.hid ((((hO2.stored (k * 3) (.int .i64 t2)).1.stored (k * 3 + 1) (.slice A2 n2 ca2)).1.stored (k * 3 + 2) (.slice B2 m2 cb2)).1)
        have hB2 := Lib.hid (bset (bset (bset (bstep hB1.out hb2) (p := ⟨w.heap.size, k * 3, none⟩) (Nat.le_refl _) (.int .i64 t2)) (p := ⟨w.heap.size, k * 3 + 1, none⟩) (Nat.le_refl _) (.slice A2 n2 ca2)) (p := ⟨w.heap.size, k * 3 + 2, none⟩) (Nat.le_refl _) (.slice B2 m2 cb2))
        have hfar : ∀ q, q ≠ w.heap.size → (((w2.setCell ⟨w.heap.size, k * 3, none⟩ (.int .i64 t2)).setCell ⟨w.heap.size, k * 3 + 1, none⟩ (.slice A2 n2 ca2)).setCell ⟨w.heap.size, k * 3 + 2, none⟩ (.slice B2 m2 cb2)).heap[q]? = w2.heap[q]? := fun q hq =>
          (Below.heap_setCell _ _ _ _ (by simpa using hq)).trans ((Below.heap_setCell _ _ _ _ (by simpa using hq)).trans (Below.heap_setCell _ _ _ _ (by simpa using hq)))
        have hY3 : Hid (∀ j T, j < k + 1 → is[j]? = some T → ∃ y0 y1 y2, (((cs.set (k * 3) (.int .i64 t2)).set (k * 3 + 1) (.slice A2 n2 ca2)).set (k * 3 + 2) (.slice B2 m2 cb2))[j * 3]? = some y0 ∧ (((cs.set (k * 3) (.int .i64 t2)).set (k * 3 + 1) (.slice A2 n2 ca2)).set (k * 3 + 2) (.slice B2 m2 cb2))[j * 3 + 1]? = some y1 ∧ (((cs.set (k * 3) (.int .i64 t2)).set (k * 3 + 1) (.slice A2 n2 ca2)).set (k * 3 + 2) (.slice B2 m2 cb2))[j * 3 + 2]? = some y2 ∧
            TAt (fun b => w.heap.size < b) d (((w2.setCell ⟨w.heap.size, k * 3, none⟩ (.int .i64 t2)).setCell ⟨w.heap.size, k * 3 + 1, none⟩ (.slice A2 n2 ca2)).setCell ⟨w.heap.size, k * 3 + 2, none⟩ (.slice B2 m2 cb2)) y0 y1 y2 (f T)) := Lib.hid (by
          intro j T' hj hT'
          rcases Nat.lt_or_ge j k with hjk | hjk
          · obtain ⟨y0, y1, y2, a0, a1, a2, a3⟩ := hY.out j T' hjk hT'
            refine ⟨y0, y1, y2, ?_, ?_, ?_, ?_⟩
            · rw [List.getElem?_set_ne (by omega), List.getElem?_set_ne (by omega), List.getElem?_set_ne (by omega)]; exact a0
            · rw [List.getElem?_set_ne (by omega), List.getElem?_set_ne (by omega), List.getElem?_set_ne (by omega)]; exact a1
            · rw [List.getElem?_set_ne (by omega), List.getElem?_set_ne (by omega), List.getElem?_set_ne (by omega)]; exact a2
            · exact TAt.keep (fun q _ hq => hfar q (by omega)) (TAt.below (TAt.below a3 (balloc (bref wr) (.cells #[.int .i64 t', .slice A' n' ca, .slice B' m' cb] 28))) hb2)
          · obtain rfl : j = k := by omega
            have hTT : T' = T := by rw [HT.out] at hT'; exact (Option.some.inj hT').symm
            subst hTT
            refine ⟨_, _, _, ?_, ?_, ?_, TAt.both (fun q _ hq => hfar q (by simp at hq; omega)) (fun q _ hq => by simp at hq; omega) _ _ _ _ _ hz⟩
            · rw [List.getElem?_set_ne (by omega), List.getElem?_set_ne (by omega), List.getElem?_set_self (by omega)]
            · rw [List.getElem?_set_ne (by omega), List.getElem?_set_self (by simp; omega)]
            · rw [List.getElem?_set_self (by simp; omega)])
        clear hO2 hz hb2 hfar
        go_wp2_with fail
        go_roundw
        case rel => exact ⟨k + 1, _, by omega, by go_num, hO3, hY3, hB2⟩
        case measure => simp [intOf]; omega
      · obtain rfl : k = is.length := by omega
        go_wp2_with fail
        go_ret
        refine ⟨_, rfl, ⟨some ⟨w.heap.size, 0, none⟩, is.length, by simp, fun j T' hT' => ?_⟩, hB.out⟩
        rw [List.getElem?_map] at hT'
        obtain ⟨T, hT, rfl⟩ := Option.map_eq_some_iff.1 hT'
        have hj := (List.getElem?_eq_some_iff.1 hT).1
        obtain ⟨y0, y1, y2, a0, a1, a2, a3⟩ := hY.out j T hj hT
        exact ⟨w.heap.size, 0, y0, y1, y2, rfl, Nat.le_refl _, by rw [Nat.zero_add, hO.out.cellAt _ (by omega)]; exact a0, by rw [Nat.zero_add, hO.out.cellAt _ (by omega)]; exact a1, by rw [Nat.zero_add, hO.out.cellAt _ (by omega)]; exact a2, a3.imp (fun q _ hq => by omega)⟩

end Go.Proofs.YtcngpfffhjbiaaaDoor

namespace Go.Proofs.YtcngpfffhjbiaaaDoor
set_option linter.unusedVariables false
open Go.RowKit

theorem NodesAt.both {P Q : Nat → Prop} {w w' : World} {v : Value} {ns : List Int} (h : NodesAt P w v ns) (hk : ∀ k, k < w.heap.size → P k → w'.heap[k]? = w.heap[k]?) (hq : ∀ k, k < w.heap.size → P k → Q k) : NodesAt Q w' v ns := by
  obtain ⟨A, c, h1, h2⟩ := h
  refine ⟨A, c, h1, fun k hk' => ?_⟩
  obtain ⟨b, off, e1, e2, e3⟩ := h2 k hk'
  exact ⟨b, off, e1, hq _ (cell_lt e3) e2, (World.cell?_of_block (hk _ (cell_lt e3) e2)).trans e3⟩

theorem ListT.both {P Q : Nat → Prop} {w w' : World} {d : Nat} {v : Value} {is : List Tree} (h : ListT P d w v is) (hk : ∀ k, k < w.heap.size → P k → w'.heap[k]? = w.heap[k]?) (hq : ∀ k, k < w.heap.size → P k → Q k) : ListT Q d w' v is := by
  obtain ⟨A, c, h1, h2⟩ := h
  refine ⟨A, c, h1, fun k T hT => ?_⟩
  obtain ⟨b, off, x0, x1, x2, e1, e2, e3, e4, e5, e6⟩ := h2 k T hT
  exact ⟨b, off, x0, x1, x2, e1, hq _ (cell_lt e3) e2, (World.cell?_of_block (hk _ (cell_lt e3) e2)).trans e3, (World.cell?_of_block (hk _ (cell_lt e4) e2)).trans e4, (World.cell?_of_block (hk _ (cell_lt e5) e2)).trans e5, TAt.both hk hq _ _ _ _ _ e6⟩

theorem NodesAt.below {P : Nat → Prop} {w w' : World} {v : Value} {ns : List Int} (h : NodesAt P w v ns) (hb : Below w.heap.size w w') : NodesAt P w' v ns := h.both (fun k hk _ => hb.block k hk) (fun _ _ h => h)

theorem ListT.below {P : Nat → Prop} {w w' : World} {d : Nat} {v : Value} {is : List Tree} (h : ListT P d w v is) (hb : Below w.heap.size w w') : ListT P d w' v is := h.both (fun k hk _ => hb.block k hk) (fun _ _ h => h)

theorem NodesAt.slice {P : Nat → Prop} {w : World} {v : Value} {ns : List Int} (h : NodesAt P w v ns) : ∃ A c, v = .slice A ns.length c := by
  obtain ⟨A, c, h1, _⟩ := h; exact ⟨A, c, h1⟩

theorem ListT.slice {P : Nat → Prop} {w : World} {d : Nat} {v : Value} {is : List Tree} (h : ListT P d w v is) : ∃ A c, v = .slice A is.length c := by
  obtain ⟨A, c, h1, _⟩ := h; exact ⟨A, c, h1⟩

theorem TAt.parts {P : Nat → Prop} {w : World} {d : Nat} {v0 v1 v2 : Value} {thr : Int} {ns : List Int} {is : List Tree} (h : TAt P (d + 1) w v0 v1 v2 (.mk thr ns is)) :
    v0 = .int .i64 thr ∧ ns.length ≤ 1000000 ∧ is.length ≤ 1000000 ∧ NodesAt P w v1 ns ∧ ListT P d w v2 is := h

theorem TAt.of_parts {P : Nat → Prop} {w : World} {d : Nat} {v1 v2 : Value} {thr : Int} {ns : List Int} {is : List Tree} (h1 : ns.length ≤ 1000000) (h2 : is.length ≤ 1000000) (h3 : NodesAt P w v1 ns) (h4 : ListT P d w v2 is) : TAt P (d + 1) w (.int .i64 thr) v1 v2 (.mk thr ns is) := ⟨rfl, h1, h2, h3, h4⟩

/-- What the drawn region of a function that copies a trust keeps: the box of the argument, the block of the result, the argument's parts. -/
def CopyS (w : World) (g r : Nat) (thr : Int) (v1 v2 : Value) (d : Nat) (ns : List Int) (is : List Tree) (W : World) : Prop :=
  (∃ y u1 u2, OutAt W r y u1 u2) ∧ NodesAt (fun b => b < w.heap.size) W v1 ns ∧ ListT (fun b => b < w.heap.size) d W v2 is ∧ OutAt W g thr v1 v2 ∧ Below w.heap.size w W

theorem CopyS.below {w W W' : World} {g r : Nat} {thr : Int} {v1 v2 : Value} {d : Nat} {ns : List Int} {is : List Tree} (h : CopyS w g r thr v1 v2 d ns is W) (hb : Below W.heap.size W W') : CopyS w g r thr v1 v2 d ns is W' := by
  obtain ⟨⟨y, u1, u2, h1⟩, h2, h3, h4, h5⟩ := h
  exact ⟨⟨y, u1, u2, h1.keep (hb.block _ h1.lt)⟩, h2.below hb, h3.below hb, h4.keep (hb.block _ h4.lt), bstep h5 hb⟩

theorem CopyS.set {w W : World} {g r : Nat} {thr : Int} {v1 v2 : Value} {d : Nat} {ns : List Int} {is : List Tree} (h : CopyS w g r thr v1 v2 d ns is W) (hg : g ≠ r) (hr : w.heap.size ≤ r) (y : Int) (u1 u2 : Value) :
    CopyS w g r thr v1 v2 d ns is (((W.setCell ⟨r, 0, none⟩ (.int .i64 y)).setCell ⟨r, 1, none⟩ u1).setCell ⟨r, 2, none⟩ u2) := by
  obtain ⟨⟨y', u1', u2', h1⟩, h2, h3, h4, h5⟩ := h
  have far : ∀ q, q ≠ r → (((W.setCell ⟨r, 0, none⟩ (.int .i64 y)).setCell ⟨r, 1, none⟩ u1).setCell ⟨r, 2, none⟩ u2).heap[q]? = W.heap[q]? := fun q hq =>
    (Below.heap_setCell _ _ _ _ (by simpa using hq)).trans ((Below.heap_setCell _ _ _ _ (by simpa using hq)).trans (Below.heap_setCell _ _ _ _ (by simpa using hq)))
  exact ⟨⟨_, _, _, ((h1.set0 y).set1 u1).set2 u2⟩, h2.both (fun k _ hk => far k (by omega)) (fun _ _ h => h), h3.both (fun k _ hk => far k (by omega)) (fun _ _ h => h), h4.keep (far g hg), bset (bset (bset h5 (p := ⟨r, 0, none⟩) hr _) (p := ⟨r, 1, none⟩) hr _) (p := ⟨r, 2, none⟩) hr _⟩

theorem copyS_drew {w W : World} {g r : Nat} {thr : Int} {v1 v2 : Value} {d : Nat} {ns : List Int} {is : List Tree} (h : CopyS w g r thr v1 v2 d ns is W) : CopyS w g r thr v1 v2 d ns is W.drew :=
  h.below ⟨rfl, rfl, rfl, Nat.le_refl _, fun _ _ => rfl⟩

theorem copyB {w W W' : World} {g r : Nat} {thr : Int} {v1 v2 : Value} {d : Nat} {ns : List Int} {is : List Tree}
    (h : W.cell? ⟨g, 0, none⟩ = some (.int .i64 thr) ∧ W.cell? ⟨g, 1, none⟩ = some v1 ∧ W.cell? ⟨g, 2, none⟩ = some v2 ∧ CopyS w g r thr v1 v2 d ns is W) (hb : Below W.heap.size W W') :
    W'.cell? ⟨g, 0, none⟩ = some (.int .i64 thr) ∧ W'.cell? ⟨g, 1, none⟩ = some v1 ∧ W'.cell? ⟨g, 2, none⟩ = some v2 ∧ CopyS w g r thr v1 v2 d ns is W' := by
  have k := h.2.2.2.below hb
  exact ⟨k.2.2.2.1.cs.1, k.2.2.2.1.cs.2.1, k.2.2.2.1.cs.2.2, k⟩

theorem copySet {w W : World} {g r : Nat} {thr : Int} {v1 v2 : Value} {d : Nat} {ns : List Int} {is : List Tree}
    (h : W.cell? ⟨g, 0, none⟩ = some (.int .i64 thr) ∧ W.cell? ⟨g, 1, none⟩ = some v1 ∧ W.cell? ⟨g, 2, none⟩ = some v2 ∧ CopyS w g r thr v1 v2 d ns is W) (hg : g ≠ r) (hr : w.heap.size ≤ r) (y : Int) (u1 u2 : Value) :
    (((W.setCell ⟨r, 0, none⟩ (.int .i64 y)).setCell ⟨r, 1, none⟩ u1).setCell ⟨r, 2, none⟩ u2).cell? ⟨g, 0, none⟩ = some (.int .i64 thr) ∧ (((W.setCell ⟨r, 0, none⟩ (.int .i64 y)).setCell ⟨r, 1, none⟩ u1).setCell ⟨r, 2, none⟩ u2).cell? ⟨g, 1, none⟩ = some v1 ∧ (((W.setCell ⟨r, 0, none⟩ (.int .i64 y)).setCell ⟨r, 1, none⟩ u1).setCell ⟨r, 2, none⟩ u2).cell? ⟨g, 2, none⟩ = some v2 ∧
      CopyS w g r thr v1 v2 d ns is (((W.setCell ⟨r, 0, none⟩ (.int .i64 y)).setCell ⟨r, 1, none⟩ u1).setCell ⟨r, 2, none⟩ u2) := by
  have k := h.2.2.2.set hg hr y u1 u2
  exact ⟨k.2.2.2.1.cs.1, k.2.2.2.1.cs.2.1, k.2.2.2.1.cs.2.2, k⟩

theorem copyN {w W : World} {g r : Nat} {thr : Int} {v1 v2 : Value} {d : Nat} {ns : List Int} {is : List Tree}
    (h : W.cell? ⟨g, 0, none⟩ = some (.int .i64 thr) ∧ W.cell? ⟨g, 1, none⟩ = some v1 ∧ W.cell? ⟨g, 2, none⟩ = some v2 ∧ CopyS w g r thr v1 v2 d ns is W) : NodesAt (fun b => b < w.heap.size) W v1 ns := h.2.2.2.2.1

theorem copyL {w W : World} {g r : Nat} {thr : Int} {v1 v2 : Value} {d : Nat} {ns : List Int} {is : List Tree}
    (h : W.cell? ⟨g, 0, none⟩ = some (.int .i64 thr) ∧ W.cell? ⟨g, 1, none⟩ = some v1 ∧ W.cell? ⟨g, 2, none⟩ = some v2 ∧ CopyS w g r thr v1 v2 d ns is W) : ListT (fun b => b < w.heap.size) d W v2 is := h.2.2.2.2.2.1

/-- The dual. -/
def dualT : Nat → Tree → Tree
  | 0, T => T
  | d + 1, .mk thr ns is => .mk (((ns.length + is.length : Nat) : Int) + 1 - thr) ns (is.map (dualT d))

end Go.Proofs.YtcngpfffhjbiaaaDoor

namespace Go.Proofs.YtcngpfffhjbiaaaDoor
set_option linter.unusedVariables false
open Go.RowKit

/-- Block lb holds the number of entries that are left. -/
def LeftAt (w : World) (lb : Nat) (x : Nat) : Prop := w.heap[lb]? = some (.cells #[.int .i64 (x : Int)] 3 (0, 0))

theorem LeftAt.lt {w : World} {lb x : Nat} (h : LeftAt w lb x) : lb < w.heap.size := by
  rcases Nat.lt_or_ge lb w.heap.size with h1 | h1
  · exact h1
  · unfold LeftAt at h; rw [Array.getElem?_eq_none h1] at h; cases h

theorem LeftAt.c {w : World} {lb x : Nat} (h : LeftAt w lb x) : w.cell? ⟨lb, 0, none⟩ = some (.int .i64 (x : Int)) := cell_of_row _ _ 0 _ _ (0, 0) h

theorem LeftAt.f {w : World} {lb x : Nat} (h : LeftAt w lb x) : w.frozen? ⟨lb, 0, none⟩ = false := by
  unfold LeftAt at h
  simp [World.frozen?, h]

theorem LeftAt.keep {w w' : World} {lb x : Nat} (h : LeftAt w lb x) (hk : w'.heap[lb]? = w.heap[lb]?) : LeftAt w' lb x := hk.trans h

theorem LeftAt.below {w w' : World} {lb x : Nat} (h : LeftAt w lb x) (hb : Below w.heap.size w w') : LeftAt w' lb x := h.keep (hb.block _ h.lt)

theorem LeftAt.set {w : World} {lb x : Nat} (h : LeftAt w lb x) (y : Nat) : LeftAt (w.setCell ⟨lb, 0, none⟩ (.int .i64 (y : Int))) lb y := by
  unfold LeftAt at h ⊢
  simp [World.setCell, Array.getElem?_modify, h]

theorem sum_map_take {α : Type} (f : α → Nat) {is : List α} {k : Nat} {T : α} (h : is[k]? = some T) : ((is.map f).take (k + 1)).sum = ((is.map f).take k).sum + f T := by
  rw [sum_take_succ (x := f T)]
  rw [List.getElem?_map, h]; rfl

theorem hls_keep {W W' : World} {lb d : Nat} {v : Value} {is : List Tree} (h : ListT (fun b => b ≠ lb) d W v is) (hg : W.grownBy W' (some lb)) : ListT (fun b => b ≠ lb) d W' v is :=
  h.both (fun k hk hP => hg.block k hk (by simpa using hP)) (fun _ _ h => h)

end Go.Proofs.YtcngpfffhjbiaaaDoor

namespace Go.Proofs.YtcngpfffhjbiaaaDoor
set_option linter.unusedVariables false
open Go.RowKit

end Go.Proofs.YtcngpfffhjbiaaaDoor

namespace Go.Proofs.YtcngpfffhjbiaaaDoor
set_option linter.unusedVariables false
open Go.RowKit

end Go.Proofs.YtcngpfffhjbiaaaDoor

namespace Go.Proofs.YtcngpfffhjbiaaaDoor
set_option linter.unusedVariables false
set_option linter.unusedSimpArgs false
open Go.RowKit

theorem sizeT1_le {n : Int} {T : Tree} (h : WF n 1 T) : sizeT 1 T ≤ 10 := by
  obtain ⟨thr, ns, is⟩ := T
  obtain ⟨_, _, h1, h2, _, _, hi⟩ := h
  have : is = [] := by
    cases is with
    | nil => rfl
    | cons a l => exact (hi a (by simp)).elim
  subst this
  show ns.length + ([] : List Tree).length + (([] : List Tree).map (sizeT 0)).sum ≤ 10
  simp; omega

theorem sum_le_mul2 {l : List Nat} {b : Nat} (h : ∀ x ∈ l, x ≤ b) : l.sum ≤ l.length * b := by
  induction l with
  | nil => simp
  | cons a l ih =>
    have h1 := h a List.mem_cons_self
    have h2 := ih (fun x hx => h x (List.mem_cons_of_mem _ hx))
    rw [List.sum_cons, List.length_cons, Nat.add_mul]
    omega

theorem sizeT2_le {n : Int} {T : Tree} (h : WF n 2 T) : sizeT 2 T ≤ 200 := by
  obtain ⟨thr, ns, is⟩ := T
  obtain ⟨_, _, h1, h2, _, _, hi⟩ := h
  have h3 : (is.map (sizeT 1)).sum ≤ (is.map (sizeT 1)).length * 10 := sum_le_mul2 (fun x hx => by
    obtain ⟨T, hT, rfl⟩ := List.mem_map.1 hx
    exact sizeT1_le (hi T hT))
  rw [List.length_map] at h3
  show ns.length + is.length + (is.map (sizeT 1)).sum ≤ 200
  omega

theorem foldOr_bit' : ∀ (l : List Nat) (s K : Nat), (l.foldl (· ||| ·) s).testBit K = true → s.testBit K = true ∨ ∃ x ∈ l, x.testBit K = true
  | [], s, K, h => .inl h
  | x :: l, s, K, h => by
    rw [List.foldl_cons] at h
    rcases foldOr_bit' l _ K h with h1 | ⟨y, hy, h1⟩
    · rw [Nat.testBit_or, Bool.or_eq_true] at h1
      exact h1.elim .inl (fun h => .inr ⟨x, by simp, h⟩)
    · exact .inr ⟨y, by simp [hy], h1⟩

/-- The nodes of a well-formed trust are nodes. -/
theorem usesT_sub {n : Nat} (hn : n ≤ 10) : ∀ (d : Nat) (T : Tree), WF n d T → ∀ k, (usesT d T).testBit k = true → k < n
  | 0, T, h, _, _ => h.elim
  | d + 1, .mk thr ns is, h, k, hk => by
    obtain ⟨_, _, _, _, hr, _, hi⟩ := h
    rcases foldOr_bit' _ _ k hk with h1 | ⟨x, hx, h1⟩
    · rw [nodesS_bit k (fun x hx => by have := hr x hx; omega), decide_eq_true_eq] at h1
      have := hr _ h1
      omega
    · obtain ⟨T, hT, rfl⟩ := List.mem_map.1 hx
      exact usesT_sub hn d T (hi T hT) k h1

theorem shr_zero (U n : Nat) (h : ∀ k, U.testBit k = true → k < n) : (U : Int) / 2 ^ n = 0 := by
  have h1 : U < 2 ^ n := Nat.lt_pow_two_of_testBit U (fun i hi => by
    cases hb : U.testBit i
    · rfl
    · have := h i hb; omega)
  have e : ((U : Int) / 2 ^ n) = ((U / 2 ^ n : Nat) : Int) := by
    rw [Int.natCast_ediv, Int.natCast_pow]; rfl
  rw [e, Nat.div_eq_of_lt h1]; rfl

theorem MemsAt.up {P : Nat → Prop} {w : World} {d : Nat} {v : Value} {ms : List Mem} (h : MemsAt P d w v ms) : MemsAt P (d + 1) w v ms := by
  obtain ⟨A, c, h1, h2⟩ := h
  refine ⟨A, c, h1, fun k m hm => ?_⟩
  obtain ⟨b, off, x0, x1, x2, e0, e1, e2, e3, e4, e5, e6⟩ := h2 k m hm
  exact ⟨b, off, x0, x1, x2, e0, e1, e2, e3, e4, e5, e6.up⟩

end Go.Proofs.YtcngpfffhjbiaaaDoor

namespace Go.Proofs.YtcngpfffhjbiaaaDoor
set_option linter.unusedVariables false
set_option linter.unusedSimpArgs false
open Go.RowKit

/-- How many of the ten bits of a set are on. -/
def popc (s : Nat) : Nat := (List.range 10).countP (fun k => s.testBit k)

def o1 (x : Int) : Int := IntKind.u64.wrap (bits .and .u64 (x / 2) 6148914691236517205 + bits .and .u64 x 6148914691236517205)

def o2 (x : Int) : Int := IntKind.u64.wrap (bits .and .u64 (x / 4) 3689348814741910323 + bits .and .u64 x 3689348814741910323)

def o3 (x : Int) : Int := bits .and .u64 (IntKind.u64.wrap (x / 16 + x)) 1085102592571150095

def o4 (x : Int) : Int := IntKind.u64.wrap (x + x / 256)

def o5 (x : Int) : Int := IntKind.u64.wrap (x + x / 65536)

def o6 (x : Int) : Int := IntKind.u64.wrap (x + x / 4294967296)

def o7 (x : Int) : Int := bits .and .i64 (wrap64 x) 127

set_option maxRecDepth 100000 in
theorem ones_fact (s : Nat) (hs : s < 1024) : o7 (o6 (o5 (o4 (o3 (o2 (o1 (s : Int))))))) = ((popc s : Nat) : Int) := by
  have all : ∀ s : Fin 1024, o7 (o6 (o5 (o4 (o3 (o2 (o1 (s.val : Int))))))) = ((popc s.val : Nat) : Int) := by decide +kernel
  exact all ⟨s, hs⟩

/-- The next greater number with as many bits. -/
def nxtS (s : Nat) : Nat := (bits .or .i64 (wrap64 ((s : Int) + bits .and .i64 (s : Int) (-(s : Int)))) (wrap64 ((bits .xor .i64 (s : Int) (wrap64 ((s : Int) + bits .and .i64 (s : Int) (-(s : Int))))).tdiv (bits .and .i64 (s : Int) (-(s : Int)))) / 4)).toNat

theorem nxt_fact (s : Nat) (hs : s < 1024) (h0 : 0 < s) : ¬ bits .and .i64 (s : Int) (-(s : Int)) = 0 ∧ (bits .or .i64 (wrap64 ((s : Int) + bits .and .i64 (s : Int) (-(s : Int)))) (wrap64 ((bits .xor .i64 (s : Int) (wrap64 ((s : Int) + bits .and .i64 (s : Int) (-(s : Int))))).tdiv (bits .and .i64 (s : Int) (-(s : Int)))) / 4)) = ((nxtS s : Nat) : Int) ∧ nxtS s < 4096 := by
  have all : ∀ s : Fin 1024, 0 < s.val → ¬ bits .and .i64 (s.val : Int) (-(s.val : Int)) = 0 ∧ (bits .or .i64 (wrap64 ((s.val : Int) + bits .and .i64 (s.val : Int) (-(s.val : Int)))) (wrap64 ((bits .xor .i64 (s.val : Int) (wrap64 ((s.val : Int) + bits .and .i64 (s.val : Int) (-(s.val : Int))))).tdiv (bits .and .i64 (s.val : Int) (-(s.val : Int)))) / 4)) = ((nxtS s.val : Nat) : Int) ∧ nxtS s.val < 4096 := by decide +kernel
  exact all ⟨s, hs⟩ h0

theorem pow11 (L : Nat) (hL : L ≤ 11) : wrap64 (2 ^ L) = ((2 ^ L : Nat) : Int) := by
  have all : ∀ L : Fin 12, wrap64 (2 ^ L.val) = ((2 ^ L.val : Nat) : Int) := by decide +kernel
  exact all ⟨L, by omega⟩

theorem popc_le (s : Nat) : popc s ≤ 10 := by unfold popc; exact Nat.le_trans List.countP_le_length (by simp)

/-- The set behind s among those of n nodes; 2^n or more: there is none. -/
def nextN (n s : Nat) : Nat := if s = 0 ∨ 2 ^ n ≤ nxtS s then 2 ^ (popc s + 1) - 1 else nxtS s

def nextR (n s : Nat) : Ending := .returned (.tuple #[.int .i64 ((if 2 ^ n ≤ nextN n s then 0 else nextN n s : Nat) : Int), .bool (!decide (2 ^ n ≤ nextN n s))])

end Go.Proofs.YtcngpfffhjbiaaaDoor

namespace Go.Proofs.YtcngpfffhjbiaaaDoor
set_option linter.unusedVariables false
set_option linter.unusedSimpArgs false
open Go.RowKit

/-- f sets from s on. -/
def ordL (n : Nat) : Nat → Nat → List Nat
  | 0, _ => []
  | f + 1, s => s :: ordL n f (nextN n s)

theorem ordL_len (n : Nat) : ∀ (f s : Nat), (ordL n f s).length = f
  | 0, _ => rfl
  | f + 1, s => by show (ordL n f (nextN n s)).length + 1 = f + 1; rw [ordL_len]

theorem ordL_next (n : Nat) : ∀ (f s i t : Nat), (ordL n f s)[i]? = some t → i + 1 < f → (ordL n f s)[i + 1]? = some (nextN n t)
  | 0, _, _, _, _, h => by omega
  | f + 1, s, 0, t, h, hf => by
    obtain rfl : s = t := by simpa [ordL] using h
    obtain ⟨g, rfl⟩ : ∃ g, f = g + 1 := ⟨f - 1, by omega⟩
    rfl
  | f + 1, s, i + 1, t, h, hf => ordL_next n f (nextN n s) i t (by simpa [ordL] using h) (by omega)

/-- All sets of n nodes, in order. -/
def ordN (n : Nat) : List Nat := ordL n (2 ^ n) 0

def maskL (l : List Nat) : Nat := l.foldl (fun a t => a ||| 2 ^ t) 0

theorem maskL_bit : ∀ (l : List Nat) (a t : Nat), (l.foldl (fun a t => a ||| 2 ^ t) a).testBit t = true → a.testBit t = true ∨ t ∈ l
  | [], a, t, h => .inl h
  | x :: l, a, t, h => by
    rcases maskL_bit l _ t h with h1 | h1
    · rw [Nat.testBit_or, Bool.or_eq_true] at h1
      rcases h1 with h1 | h1
      · exact .inl h1
      · rw [Nat.testBit_two_pow] at h1
        exact .inr (by have : x = t := by simpa using h1
                       rw [this]; exact List.mem_cons_self)
    · exact .inr (List.mem_cons_of_mem _ h1)

set_option maxRecDepth 100000 in
theorem ord_mask (n : Nat) (hn : n ≤ 10) : maskL (ordN n) = 2 ^ (2 ^ n) - 1 := by
  have all : ∀ n : Fin 11, maskL (ordN n.val) = 2 ^ (2 ^ n.val) - 1 := by decide +kernel
  exact all ⟨n, by omega⟩

theorem ord_mem (n : Nat) (hn : n ≤ 10) (t : Nat) (ht : t < 2 ^ n) : t ∈ ordN n := by
  have h : (maskL (ordN n)).testBit t = true := by rw [ord_mask n hn, Nat.testBit_two_pow_sub_one, decide_eq_true ht]
  rcases maskL_bit _ _ _ h with h1 | h1
  · simp at h1
  · exact h1

set_option maxRecDepth 100000 in
theorem ord_lt (n : Nat) (hn : n ≤ 10) (t : Nat) (ht : t ∈ ordN n) : t < 2 ^ n := by
  have all : ∀ n : Fin 11, (ordN n.val).all (fun t => decide (t < 2 ^ n.val)) = true := by decide +kernel
  have := List.all_eq_true.1 (all ⟨n, by omega⟩) t ht
  simpa using this

/-- The place of a set in the order of sets. -/
def keyN (s : Nat) : Nat := popc s * 1024 + s

set_option maxRecDepth 100000 in
theorem keyN_next (n : Nat) (hn : n ≤ 10) (s : Nat) (hs : s < 2 ^ n) (h : nextN n s < 2 ^ n) : keyN s < keyN (nextN n s) := by
  have all : ∀ n : Fin 11, (List.range (2 ^ n.val)).all (fun s => !decide (nextN n.val s < 2 ^ n.val) || decide (keyN s < keyN (nextN n.val s))) = true := by decide +kernel
  have h1 := List.all_eq_true.1 (all ⟨n, by omega⟩) s (List.mem_range.2 hs)
  rw [decide_eq_true h] at h1
  simpa using h1

theorem keyN_lt (s : Nat) (hs : s < 1024) : keyN s < 20000 := by
  have := popc_le s
  unfold keyN; omega

theorem ord_zero (n : Nat) : (ordN n)[0]? = some 0 := by
  unfold ordN
  obtain ⟨f, hf⟩ : ∃ f, 2 ^ n = f + 1 := ⟨2 ^ n - 1, by have := Nat.one_le_two_pow (n := n); omega⟩
  rw [hf]; rfl

theorem ord_len (n : Nat) : (ordN n).length = 2 ^ n := ordL_len n _ _

set_option maxRecDepth 100000 in
theorem ord_last (n : Nat) (hn : n ≤ 10) (s : Nat) (h : (ordN n)[2 ^ n - 1]? = some s) : 2 ^ n ≤ nextN n s := by
  have all : ∀ n : Fin 11, (match (ordN n.val)[2 ^ n.val - 1]? with | some s => decide (2 ^ n.val ≤ nextN n.val s) | none => true) = true := by decide +kernel
  have h1 := all ⟨n, by omega⟩
  simp only [h] at h1
  simpa using h1

/-- One set further: the next one, or all have been seen. -/
theorem ord_step (n : Nat) (hn : n ≤ 10) (i s : Nat) (h : (ordN n)[i]? = some s) : (nextN n s < 2 ^ n → (ordN n)[i + 1]? = some (nextN n s)) ∧ (2 ^ n ≤ nextN n s → i + 1 = 2 ^ n) := by
  have hi : i < 2 ^ n := by
    have := (List.getElem?_eq_some_iff.1 h).1
    rwa [ord_len] at this
  have hx := ordL_next n (2 ^ n) 0 i s h
  rcases Nat.lt_or_ge (i + 1) (2 ^ n) with h1 | h1
  · refine ⟨fun _ => hx h1, fun h2 => ?_⟩
    have := ord_lt n hn _ (List.mem_of_getElem? (hx h1))
    omega
  · have e : i + 1 = 2 ^ n := by omega
    refine ⟨fun h2 => ?_, fun _ => e⟩
    have h3 := ord_last n hn s (by rw [← e, Nat.add_sub_cancel]; exact h)
    omega

end Go.Proofs.YtcngpfffhjbiaaaDoor

namespace Go.Proofs.YtcngpfffhjbiaaaDoor
set_option linter.unusedVariables false
open Go.RowKit

theorem take_d {P : Program} {md : Region.Mode} {ops : Array Oper} {Q : Exit → Act → World → Prop} {S : World → Prop} {i : Nat} {oi : Oper} {v : Value} {fuel : Nat} {listed : Array Bool} {a : Act} {w : World} (d : Option Tmp) (hi : ops[i]? = some oi) (hd : oi.dst = d)
    (hs : Region.noSelect ops = true) (hf : Region.free md ops listed i = true) (hr : (Region.ready md ops listed).contains i = true)
    (hQ : ∀ c a w, Q (.panic c) (a.put d v) w → Q (.panic c) a w) (hy : YieldsIf P ops S oi v a) (hS : S w)
    (h : wpAnyH P md ops Q S fuel (listed.setIfInBounds i true) (a.put d v) w) : wpAnyH P md ops Q S (fuel + 1) listed a w := by
  subst hd
  exact wpAnyH_take hi hs hf hr hQ hy hS h

end Go.Proofs.YtcngpfffhjbiaaaDoor

namespace Go.Proofs.YtcngpfffhjbiaaaDoor
set_option linter.unusedVariables false
set_option linter.unusedSimpArgs false
open Go.RowKit

/-- All members but those of t. -/
def outS (n t : Nat) : Nat := (2 ^ n - 1) ^^^ ((2 ^ n - 1) &&& t)

theorem outS_bit (n t j : Nat) : (outS n t).testBit j = (decide (j < n) && !t.testBit j) := by
  unfold outS
  rw [Nat.testBit_xor, Nat.testBit_and, Nat.testBit_two_pow_sub_one]
  cases decide (j < n) <;> cases t.testBit j <;> rfl

theorem outS_lt (n t : Nat) (hn : n ≤ 10) : outS n t < 1024 := by
  have h : outS n t < 2 ^ 10 := Nat.lt_pow_two_of_testBit _ (fun i hi => by rw [outS_bit, decide_eq_false (by omega)]; rfl)
  omega

/-- t is a quorum. -/
def IsQ (d : Nat) (ms : List Mem) (t : Nat) : Prop := t ≠ 0 ∧ Sub t (declS ms ms.length) ∧ Closed d ms t

/-- t is a quorum beside which there is another one. -/
def Apart (d : Nat) (ms : List Mem) (t : Nat) : Prop := IsQ d ms t ∧ ∃ q, q < 1024 ∧ q ≠ 0 ∧ Sub q (outS ms.length t &&& declS ms ms.length) ∧ Closed d ms q

theorem apart_gr {d : Nat} {ms : List Mem} {t G : Nat} (hG : G < 1024) (h : IsGr d ms (outS ms.length t &&& declS ms ms.length) G) : (∃ q, q < 1024 ∧ q ≠ 0 ∧ Sub q (outS ms.length t &&& declS ms ms.length) ∧ Closed d ms q) ↔ G ≠ 0 := by
  constructor
  · rintro ⟨q, h1, h2, h3, h4⟩ e
    have h5 := h.most q h1 h3 h4
    rw [e] at h5
    exact h2 (Nat.eq_of_testBit_eq fun k => by
      rw [Nat.zero_testBit]
      cases hb : q.testBit k
      · rfl
      · have := h5 k hb; simp at this)
  · intro h1
    exact ⟨G, hG, h1, h.sub, h.closed⟩

theorem keepM {W W' : World} {P : Nat → Prop} {d g : Nat} {v : Value} {ms : List Mem} (h : W.cell? ⟨g, 0, none⟩ = some v ∧ MemsAt P d W v ms) (hb : Below W.heap.size W W') : W'.cell? ⟨g, 0, none⟩ = some v ∧ MemsAt P d W' v ms := ⟨(hb.cell (cell_lt h.1)).trans h.1, h.2.below hb⟩

theorem memsM {W : World} {P : Nat → Prop} {d g : Nat} {v : Value} {ms : List Mem} (h : W.cell? ⟨g, 0, none⟩ = some v ∧ MemsAt P d W v ms) : MemsAt P d W v ms := h.2

theorem bdrew' (W : World) : Below W.heap.size W W.drew := ⟨rfl, rfl, rfl, Nat.le_refl _, fun _ _ => rfl⟩

def noneB (R G : Nat) : Bool := (G == 0) || (R ^^^ (R &&& G) != 0)

theorem noneB_iff {R G : Nat} : noneB R G = true ↔ G = 0 ∨ ¬ Sub R G := by
  unfold noneB
  rw [Bool.or_eq_true, beq_iff_eq, bne_iff_ne, ← sub_iff]

/-- What pair returns. -/
def PairOk (d : Nat) (ms : List Mem) (e : Ending) : Prop := (∃ i a b : Nat, e = .returned (.tuple #[.int .i64 (a : Int), .int .i64 (b : Int), .bool true]) ∧ (ordN ms.length)[i]? = some a ∧ Apart d ms a ∧ IsGr d ms (outS ms.length a &&& declS ms ms.length) b ∧ b < 1024 ∧ (∀ j t : Nat, j < i → (ordN ms.length)[j]? = some t → ¬ Apart d ms t)) ∨
  (e = .returned (.tuple #[.int .i64 0, .int .i64 0, .bool false]) ∧ ∀ t, t < 2 ^ ms.length → ¬ Apart d ms t)

def boolM (b : Bool) (s : Nat) : Nat := if b then 20001 - keyN s else 0

end Go.Proofs.YtcngpfffhjbiaaaDoor

namespace Go.Proofs.YtcngpfffhjbiaaaDoor
set_option linter.unusedVariables false
set_option linter.unusedSimpArgs false
open Go.RowKit

def popk (s k : Nat) : Nat := (List.range k).countP (fun i => s.testBit i)

theorem popk_succ (s k : Nat) : popk s (k + 1) = popk s k + (s / 2 ^ k) % 2 := by
  unfold popk
  rw [List.range_succ, List.countP_append, List.countP_singleton, Nat.testBit_eq_decide_div_mod_eq]
  congr 1
  rcases Nat.mod_two_eq_zero_or_one (s / 2 ^ k) with h | h <;> simp [h]

theorem popk_le (s k : Nat) : popk s k ≤ k := by unfold popk; exact Nat.le_trans List.countP_le_length (by simp)

theorem popc_mono {a b : Nat} (h : Sub a b) : popc a ≤ popc b := by
  unfold popc
  exact List.countP_mono_left (fun i _ hi => h i hi)

theorem add_bit (s r k : Nat) (hs : s < 1024) (hr : r ≤ 10) : wrap64 ((r : Int) + bits .and .i64 ((s : Int) / 2 ^ k) 1) = ((r + (s / 2 ^ k) % 2 : Nat) : Int) := by
  have e : ((s : Int) / 2 ^ k) = ((s / 2 ^ k : Nat) : Int) := by
    rw [Int.natCast_ediv, Int.natCast_pow]; rfl
  have hq := Nat.div_le_self s (2 ^ k)
  have h1 := i64_and_nat (s / 2 ^ k) 1 (by omega) (by omega)
  rw [e, show (1 : Int) = ((1 : Nat) : Int) from rfl, h1, Nat.and_one_is_mod]
  unfold wrap64
  omega

/-- The subsets of s among the sets before x of size n. -/
def SubL (s n x : Nat) (l : List Int) : Prop := l.length ≤ 1024 * n + x ∧ ∀ t : Int, t ∈ l ↔ ∃ q : Nat, t = (q : Int) ∧ Sub q s ∧ q ≤ s ∧ (popc q < n ∨ (popc q = n ∧ q < x))

theorem SubL.nil (s : Nat) : SubL s 0 0 [] := ⟨by simp, fun t => by
  constructor
  · intro h; cases h
  · rintro ⟨q, _, _, _, h | ⟨_, h⟩⟩ <;> omega⟩

theorem SubL.turn {s n : Nat} {l : List Int} (hs : s < 1024) (h : SubL s n (s + 1) l) : SubL s (n + 1) 0 l := ⟨by have := h.1; omega, fun t => by
  rw [h.2 t]
  constructor
  · rintro ⟨q, e, hq, hle, h⟩; exact ⟨q, e, hq, hle, by omega⟩
  · rintro ⟨q, e, hq, hle, h⟩; exact ⟨q, e, hq, hle, by omega⟩⟩

theorem SubL.skip {s n x : Nat} {l : List Int} (h : SubL s n x l) (hn : ¬ (Sub x s ∧ popc x = n)) : SubL s n (x + 1) l := ⟨by have := h.1; omega, fun t => by
  rw [h.2 t]
  constructor
  · rintro ⟨q, e, hq, hle, h⟩; exact ⟨q, e, hq, hle, by omega⟩
  · rintro ⟨q, e, hq, hle, h⟩
    refine ⟨q, e, hq, hle, ?_⟩
    rcases h with h | ⟨h1, h2⟩
    · exact .inl h
    · by_cases hx : q = x
      · subst hx; exact (hn ⟨hq, h1⟩).elim
      · exact .inr ⟨h1, by omega⟩⟩

theorem SubL.take {s n x : Nat} {l : List Int} (h : SubL s n x l) (hx : x ≤ s) (h1 : Sub x s) (h2 : popc x = n) : SubL s n (x + 1) (l ++ [(x : Int)]) := ⟨by have := h.1; simp; omega, fun t => by
  rw [List.mem_append, h.2 t, List.mem_singleton]
  constructor
  · rintro (⟨q, e, hq, hle, h⟩ | rfl)
    · exact ⟨q, e, hq, hle, by omega⟩
    · exact ⟨x, rfl, h1, hx, .inr ⟨h2, by omega⟩⟩
  · rintro ⟨q, e, hq, hle, h⟩
    by_cases hqx : q = x ∧ popc q = n
    · right; rw [e, hqx.1]
    · left; exact ⟨q, e, hq, hle, by omega⟩⟩

theorem SubL.full {s : Nat} {l : List Int} (h : SubL s (popc s + 1) 0 l) : ∀ t : Int, t ∈ l ↔ ∃ q : Nat, t = (q : Int) ∧ Sub q s := fun t => by
  rw [h.2 t]
  constructor
  · rintro ⟨q, e, hq, _, _⟩; exact ⟨q, e, hq⟩
  · rintro ⟨q, e, hq⟩
    refine ⟨q, e, hq, ?_, .inl ?_⟩
    · rw [← and_self_sub.2 hq]; exact Nat.and_le_right
    · have := popc_mono hq; omega

end Go.Proofs.YtcngpfffhjbiaaaDoor

namespace Go.Proofs.YtcngpfffhjbiaaaDoor
set_option linter.unusedVariables false
set_option linter.unusedSimpArgs false
open Go.RowKit

theorem outS_sub (n s : Nat) (hn : n ≤ 10) (hs : s ≤ 2 ^ n - 1) : IntKind.i64.wrap (((2 ^ n - 1 : Nat) : Int) - (s : Int)) = ((outS n s : Nat) : Int) := by
  have all : ∀ n : Fin 11, ∀ s : Fin 1024, s.val ≤ 2 ^ n.val - 1 → 2 ^ n.val - 1 - s.val = outS n.val s.val := by decide +kernel
  have hp2 : 2 ^ n ≤ 2 ^ 10 := Nat.pow_le_pow_right (by omega) hn
  have e : 2 ^ n - 1 - s = outS n s := all ⟨n, by omega⟩ ⟨s, by omega⟩ hs
  rw [← e]
  exact (IntWalk.i64_in _ (by omega)).trans (by omega)

theorem sub_ones {n s : Nat} (hn : n ≤ 10) : Sub s (2 ^ n - 1) → s ≤ 2 ^ n - 1 := fun h => by
  rw [← and_self_sub.2 h]; exact Nat.and_le_right

theorem sub_all {n s : Nat} (h : ∀ k, s.testBit k = true → k < n) : Sub s (2 ^ n - 1) := fun k hk => by
  rw [Nat.testBit_two_pow_sub_one, decide_eq_true (h k hk)]

/-- What the reference's apart returns. -/
def RApart (d : Nat) (ms : List Mem) (e : Ending) : Prop := (∃ a b : Nat, e = .returned (.tuple #[.int .i64 (a : Int), .int .i64 (b : Int)]) ∧ Apart d ms a) ∨
  (e = .returned (.tuple #[.int .i64 0, .int .i64 0]) ∧ ∀ t, ¬ Apart d ms t)

end Go.Proofs.YtcngpfffhjbiaaaDoor

namespace Go.Proofs.YtcngpfffhjbiaaaDoor
set_option linter.unusedVariables false
set_option linter.unusedSimpArgs false
open Go.RowKit

theorem pow11' (L : Nat) (hL : L ≤ 11) : IntKind.i64.wrap (2 ^ L) = ((2 ^ L : Nat) : Int) := by
  have all : ∀ L : Fin 12, IntKind.i64.wrap (2 ^ L.val) = ((2 ^ L.val : Nat) : Int) := by decide +kernel
  exact all ⟨L, by omega⟩

theorem ltpow_of_bits (U n : Nat) (h : ∀ k, U.testBit k = true → k < n) : U < 2 ^ n := Nat.lt_pow_two_of_testBit U (fun i hi => by
  cases hb : U.testBit i
  · rfl
  · have := h i hb; omega)

theorem stKeep {W1 W W' : World} {g b off m c r n1 c1 n2 c2 : Nat} {t : Int} {A1 A2 : Option Addr} {P : Nat → Prop} {T : Tree} (h : W.cell? ⟨g, 0, none⟩ = some (.slice (some ⟨b, off, none⟩) m c) ∧ W.cell? ⟨r, 1, none⟩ = some (.int .i64 t) ∧ W.cell? ⟨r, 2, none⟩ = some (.slice A1 n1 c1) ∧ W.cell? ⟨r, 3, none⟩ = some (.slice A2 n2 c2) ∧ TAt P 2 W (.int .i64 t) (.slice A1 n1 c1) (.slice A2 n2 c2) T ∧ Below W1.heap.size W1 W) (hb : Below W.heap.size W W') : W'.cell? ⟨g, 0, none⟩ = some (.slice (some ⟨b, off, none⟩) m c) ∧ W'.cell? ⟨r, 1, none⟩ = some (.int .i64 t) ∧ W'.cell? ⟨r, 2, none⟩ = some (.slice A1 n1 c1) ∧ W'.cell? ⟨r, 3, none⟩ = some (.slice A2 n2 c2) ∧ TAt P 2 W' (.int .i64 t) (.slice A1 n1 c1) (.slice A2 n2 c2) T ∧ Below W1.heap.size W1 W' :=
  ⟨(hb.cell (cell_lt h.1)).trans h.1, (hb.cell (cell_lt h.2.1)).trans h.2.1, (hb.cell (cell_lt h.2.2.1)).trans h.2.2.1, (hb.cell (cell_lt h.2.2.2.1)).trans h.2.2.2.1, h.2.2.2.2.1.below hb, bstep h.2.2.2.2.2 hb⟩

theorem stT {W1 W : World} {g b off m c r n1 c1 n2 c2 : Nat} {t : Int} {A1 A2 : Option Addr} {P : Nat → Prop} {T : Tree} (h : W.cell? ⟨g, 0, none⟩ = some (.slice (some ⟨b, off, none⟩) m c) ∧ W.cell? ⟨r, 1, none⟩ = some (.int .i64 t) ∧ W.cell? ⟨r, 2, none⟩ = some (.slice A1 n1 c1) ∧ W.cell? ⟨r, 3, none⟩ = some (.slice A2 n2 c2) ∧ TAt P 2 W (.int .i64 t) (.slice A1 n1 c1) (.slice A2 n2 c2) T ∧ Below W1.heap.size W1 W) : TAt P 2 W (.int .i64 t) (.slice A1 n1 c1) (.slice A2 n2 c2) T := h.2.2.2.2.1

set_option maxHeartbeats 400000 in
theorem rsame01_run (A A' : Option Addr) (c c' : Nat) (w : World) : Calls Tryd.prog 53 #[.slice A 0 c, .slice A' 0 c'] w fun e w' => e = .returned (.bool true) ∧ w = w' := by
  go_enter Tryd.func53, Tryd.ntmps53
  go_wp2_with fail
  go_loop [13] (fun t => t = .int .i64 0) (fun _ => 0)
  case atStart => rfl
  case round =>
    subst hrel
    go_wp2_with fail
    go_ret
    exact ⟨rfl, rfl⟩

set_option maxHeartbeats 1000000 in
theorem rsame0_run (A B A' B' : Option Addr) (c c' ca cb : Nat) (w : World) : Calls Tryd.prog 38 #[.agg #[.int .i64 0, .slice A 0 c, .slice B 0 c'], .agg #[.int .i64 0, .slice A' 0 ca, .slice B' 0 cb]] w fun e w' => e = .returned (.bool true) ∧ Below w.heap.size w w' := by
  have hb2 : Below w.heap.size w ((w.alloc (.cells #[.int .i64 0, .slice A 0 c, .slice B 0 c'] 28)).alloc (.cells #[.int .i64 0, .slice A' 0 ca, .slice B' 0 cb] 28)) := balloc (balloc (bref w) _) _
  have k0 : ((w.alloc (.cells #[.int .i64 0, .slice A 0 c, .slice B 0 c'] 28)).alloc (.cells #[.int .i64 0, .slice A' 0 ca, .slice B' 0 cb] 28)).heap[w.heap.size]? = some (.cells #[.int .i64 0, .slice A 0 c, .slice B 0 c'] 28 (0, 0)) := alloc_on (alloc_at rfl)
  have k1 : ((w.alloc (.cells #[.int .i64 0, .slice A 0 c, .slice B 0 c'] 28)).alloc (.cells #[.int .i64 0, .slice A' 0 ca, .slice B' 0 cb] 28)).heap[w.heap.size + 1]? = some (.cells #[.int .i64 0, .slice A' 0 ca, .slice B' 0 cb] 28 (0, 0)) := alloc_at (alloc_sz _ _)
  have HB := Lib.hid hb2
  have K0 := Lib.hid k0
  have K1 := Lib.hid k1
  clear hb2 k0 k1
  go_enter Tryd.func38, Tryd.ntmps38
  go_upto_region 1 with fail
  generalize ((w.alloc (.cells #[.int .i64 0, .slice A 0 c, .slice B 0 c'] 28)).alloc (.cells #[.int .i64 0, .slice A' 0 ca, .slice B' 0 cb] 28)) = W2 at *
  generalize hg : w.heap.size = g at *
  have HG := Lib.hid hg
  clear hg
  have c0 : W2.cell? ⟨g, 0, none⟩ = some (.int .i64 0) := cell_of_row _ _ 0 _ _ (0, 0) K0.out
  have c1 : W2.cell? ⟨g, 1, none⟩ = some (.slice A 0 c) := cell_of_row _ _ 1 _ _ (0, 0) K0.out
  have c2 : W2.cell? ⟨g, 2, none⟩ = some (.slice B 0 c') := cell_of_row _ _ 2 _ _ (0, 0) K0.out
  have d0 : W2.cell? ⟨g + 1, 0, none⟩ = some (.int .i64 0) := cell_of_row _ _ 0 _ _ (0, 0) K1.out
  have d1 : W2.cell? ⟨g + 1, 1, none⟩ = some (.slice A' 0 ca) := cell_of_row _ _ 1 _ _ (0, 0) K1.out
  have d2 : W2.cell? ⟨g + 1, 2, none⟩ = some (.slice B' 0 cb) := cell_of_row _ _ 2 _ _ (0, 0) K1.out
  go_wp2_with fail
  refine (rsame01_run _ _ _ _ _).mono ?_
  rintro e w3 ⟨rfl, rfl⟩
  go_wp2_with fail
  go_loop [31] (fun t => t = .int .i64 0) (fun _ => 0)
  case atStart => rfl
  case round =>
    subst hrel
    go_wp2_with fail
    go_ret
    rw [← HG.out] at HB ⊢
    exact ⟨rfl, HB.out⟩

set_option maxRecDepth 100000 in
set_option maxHeartbeats 2000000 in
theorem rtvalid_run (P : Nat → Prop) (n : Int) (hn10 : n ≤ 10) (d : Nat) (hd : d ≤ 4) (T : Tree) (v0 v1 v2 : Value) (w : World) (h : TAt P d w v0 v1 v2 T) (hW : WF n d T) (hz0 : sizeT d T ≤ 200) :
    Calls Tryd.prog 14 #[.agg #[v0, v1, v2]] w fun e w' => e = .returned (.int .i64 0) ∧ Below w.heap.size w w' := by
  obtain ⟨t', A', n', ca, B', m', cb, rfl, rfl, rfl⟩ := h.form
  have hT := Lib.hid (h.below (balloc (bref w) (.cells #[.int .i64 t', .slice A' n' ca, .slice B' m' cb] 28)))
  have HW := Lib.hid hW
  have hdl := Nat.le_trans (depthT_le d T) hd
  have hsz := hW.size4 hd
  clear h hW
  go_enter Tryd.func14, Tryd.ntmps14
  have hbox : (w.alloc (.cells #[.int .i64 t', .slice A' n' ca, .slice B' m' cb] 28)).heap[w.heap.size]? = some (.cells #[.int .i64 t', .slice A' n' ca, .slice B' m' cb] 28 (0, 0)) := heap_alloc_new _ _
  have HBX := Lib.hid hbox
  have HB1 := Lib.hid (balloc (bref w) (.cells #[.int .i64 t', .slice A' n' ca, .slice B' m' cb] 28))
  clear hbox
  go_upto_region 1 with fail
  generalize w.alloc (.cells #[.int .i64 t', .slice A' n' ca, .slice B' m' cb] 28) = W1 at *
  generalize hg : w.heap.size = g at *
  have hgw := Lib.hid hg
  clear hg
  have c0 : W1.cell? ⟨g, 0, none⟩ = some (.int .i64 t') := cell_of_row _ _ 0 _ _ (0, 0) HBX.out
  have c1 : W1.cell? ⟨g, 1, none⟩ = some (.slice A' n' ca) := cell_of_row _ _ 1 _ _ (0, 0) HBX.out
  have c2 : W1.cell? ⟨g, 2, none⟩ = some (.slice B' m' cb) := cell_of_row _ _ 2 _ _ (0, 0) HBX.out
  have hgl : g < W1.heap.size := cell_lt c0
  generalize hdz : depthT d T = dz at *
  generalize hzz : sizeT d T = zz at *
  have HDZ := Lib.hid hdz
  have HZZ := Lib.hid hzz
  clear hdz hzz
  go_wp2_with fail
  refine (rdepth_run P d T _ _ _ _ (by omega) hT.out).mono ?_
  rintro e w2 ⟨rfl, hb2⟩
  rw [HDZ.out]
  have a0 := (hb2.cell (p := ⟨g, 0, none⟩) hgl).trans c0
  have a1 := (hb2.cell (p := ⟨g, 1, none⟩) hgl).trans c1
  have a2 := (hb2.cell (p := ⟨g, 2, none⟩) hgl).trans c2
  have hT2 := Lib.hid (hT.out.below hb2)
  have HB2 := Lib.hid hb2
  have hgl2 := cell_lt a0
  clear hb2
  go_wp2_with fail
  refine (rsize_run P d T _ _ _ _ hT2.out (by rw [HZZ.out]; omega)).mono ?_
  rintro e w3 ⟨rfl, hb3⟩
  rw [HZZ.out]
  have d0 := (hb3.cell (p := ⟨g, 0, none⟩) hgl2).trans a0
  have d1 := (hb3.cell (p := ⟨g, 1, none⟩) hgl2).trans a1
  have d2 := (hb3.cell (p := ⟨g, 2, none⟩) hgl2).trans a2
  have hT3 := Lib.hid (hT2.out.below hb3)
  have HB3 := Lib.hid (bstep HB2.out hb3)
  have HBW : Hid (∀ x : World, Below W1.heap.size W1 x → Below w.heap.size w x) := Lib.hid (fun x hx => by have h1 := HB1.out; rw [← hgw.out] at h1; exact bstep h1 hx)
  clear hb3
  have hz2 : zz ≤ 200 := by have := HZZ.out; omega
  go_wp2_with fail
  refine (rcheck_run P n hn10 d T _ _ _ _ hT3.out HW.out).mono ?_
  rintro e w4 ⟨rfl, hb4⟩
  go_wp2_with fail
  go_ret
  rw [← hgw.out]
  exact ⟨rfl, HBW.out _ (bstep HB3.out hb4)⟩

set_option maxRecDepth 100000 in
set_option maxHeartbeats 2000000 in
theorem rcvalid_run (P : Nat → Prop) (ms : List Mem) (v : Value) (w : World) (hl : ms.length ≤ 10) (h : MemsAt P 2 w v ms) (hok : MemsOk ms.length ms) :
    Calls Tryd.prog 19 #[.agg #[v]] w fun e w' => e = .returned (.int .i64 0) ∧ Below w.heap.size w w' := by
  obtain ⟨A, c, rfl⟩ := h.slice
  have hb1 : Below w.heap.size w (w.alloc (.cells #[.slice A ms.length c] 40)) := balloc (bref w) _
  have k0 : (w.alloc (.cells #[.slice A ms.length c] 40)).heap[w.heap.size]? = some (.cells #[.slice A ms.length c] 40 (0, 0)) := alloc_at rfl
  have H := Lib.hid (h.below hb1)
  have HB := Lib.hid hb1
  have K0 := Lib.hid k0
  have HOK := Lib.hid hok
  clear h hb1 k0 hok
  go_enter Tryd.func19, Tryd.ntmps19
  go_upto_region 1 with fail
  generalize w.alloc (.cells #[.slice A ms.length c] 40) = W1 at *
  generalize hg : w.heap.size = g at *
  have HG := Lib.hid hg
  clear hg
  have c0 : W1.cell? ⟨g, 0, none⟩ = some (.slice A ms.length c) := cell_of_row _ _ 0 _ _ (0, 0) K0.out
  have hgl := cell_lt c0
  have hl10 : ¬ (10 : Int) < (ms.length : Int) := by omega
  go_wp2_with fail
  go_loopw [13] (fun t W => ∃ k : Nat, k ≤ ms.length ∧ t = .int .i64 k ∧ Hid (Below W1.heap.size W1 W)) (fun t _ => ms.length - (intOf t).toNat)
  case atStart => exact ⟨0, by omega, rfl, Lib.hid (bref _)⟩
  case round =>
    obtain ⟨k, hk, rfl, hB⟩ := hrel
    by_cases hlt : k < ms.length
    · obtain ⟨m, hm⟩ : ∃ m, ms[k]? = some m := ⟨_, List.getElem?_eq_getElem hlt⟩
      obtain ⟨b, off, t, A1, n1, c1, A2, n2, c2, rfl, hP, hbl, e0, e1, e2, e3, hT⟩ := memBox (H.out.below hB.out) hm
      have hmo := HOK.out m (List.mem_of_getElem? hm)
      have HM1 := Lib.hid hmo.1
      have HM2 := Lib.hid hmo.2
      obtain ⟨dec, T⟩ := m
      have hba := balloc (bref wr) (.cells #[.bool dec, .int .i64 t, .slice A1 n1 c1, .slice A2 n2 c2] 49)
      have k1 : (wr.alloc (.cells #[.bool dec, .int .i64 t, .slice A1 n1 c1, .slice A2 n2 c2] 49)).heap[wr.heap.size]? = some (.cells #[.bool dec, .int .i64 t, .slice A1 n1 c1, .slice A2 n2 c2] 49 (0, 0)) := alloc_at rfl
      have K1 := Lib.hid k1
      have hTA := hT.below hba
      have HBA := Lib.hid (bstep hB.out hba)
      clear hm hT hmo hba k1
      go_upto_region 6 with fail
      generalize wr.alloc (.cells #[.bool dec, .int .i64 t, .slice A1 n1 c1, .slice A2 n2 c2] 49) = W3 at *
      generalize wr.heap.size = r at *
      have c4 : W3.cell? ⟨g, 0, none⟩ = some (.slice (some ⟨b, off, none⟩) ms.length c) := (HBA.out.cell hgl).trans (cell_of_row _ _ 0 _ _ (0, 0) K0.out)
      have r0 : W3.cell? ⟨r, 0, none⟩ = some (.bool dec) := cell_of_row _ _ 0 _ _ (0, 0) K1.out
      have r1 : W3.cell? ⟨r, 1, none⟩ = some (.int .i64 t) := cell_of_row _ _ 1 _ _ (0, 0) K1.out
      have r2 : W3.cell? ⟨r, 2, none⟩ = some (.slice A1 n1 c1) := cell_of_row _ _ 2 _ _ (0, 0) K1.out
      have r3 : W3.cell? ⟨r, 3, none⟩ = some (.slice A2 n2 c2) := cell_of_row _ _ 3 _ _ (0, 0) K1.out
      clear e0 e1 e2 e3 c0
      cases dec
      · obtain rfl := HM2.out rfl
        obtain ⟨ht, _, _, hN, hL⟩ := hTA.parts
        obtain ⟨A3, c3, hv1⟩ := hN.slice
        obtain ⟨A4, c5, hv2⟩ := hL.slice
        cases ht
        cases hv1
        cases hv2
        clear hTA hN hL
        go_wp2_with fail
        refine (rsame0_run _ _ _ _ _ _ _ _ _).mono ?_
        rintro e w4 ⟨rfl, hb4⟩
        have HB4 := Lib.hid (bstep HBA.out hb4)
        clear hb4 c4 r0 r1 r2 r3
        go_wp2_with fail
        go_roundw
        case rel => exact ⟨k + 1, by omega, by go_num, HB4⟩
        case measure => simp [intOf]; omega
      · have HW := Lib.hid (HM1.out rfl)
        have HT := Lib.hid hTA
        have HU := Lib.hid (ltpow_of_bits _ ms.length (usesT_sub hl 2 T HW.out))
        have hul := usesT_lt 2 T
        have hpw : IntKind.i64.wrap (2 ^ ms.length) = ((2 ^ ms.length : Nat) : Int) := pow11' ms.length (by omega)
        have HPW := Lib.hid hpw
        clear hTA hpw
        go_wp2_with fail
        refine (rtvalid_run P ms.length (by omega) 2 (by omega) T _ _ _ _ HT.out HW.out (sizeT2_le HW.out)).mono ?_
        rintro e w4 ⟨rfl, hb4⟩
        have HS4 := Lib.hid (stKeep (⟨c4, r1, r2, r3, HT.out, HBA.out⟩) hb4)
        clear hb4 c4 r0 r1 r2 r3
        go_upto_region 12 with fail
        have hS := Lib.hid (stKeep HS4.out (bdrew' w4))
        have hpw := HPW.out
        obtain ⟨N, hN⟩ : ∃ N, 2 ^ ms.length = N := ⟨_, rfl⟩
        have HN := Lib.hid hN
        have huN := HU.out
        rw [hN] at hpw huN
        obtain ⟨U, hUq⟩ : ∃ U, usesT 2 T = U := ⟨_, rfl⟩
        have HUU := Lib.hid hUq
        rw [hUq] at huN hul
        have hge : ((N : Int) ≤ (U : Int)) = False := by simp; omega
        clear hN hUq huN
        refine wp_region_noPanic ?_
        refine wp_region_held_drew (S := fun W => W.cell? ⟨g, 0, none⟩ = some (.slice (some ⟨b, off, none⟩) ms.length c) ∧ W.cell? ⟨r, 1, none⟩ = some (.int .i64 t) ∧ W.cell? ⟨r, 2, none⟩ = some (.slice A1 n1 c1) ∧ W.cell? ⟨r, 3, none⟩ = some (.slice A2 n2 c2) ∧ TAt P 2 W (.int .i64 t) (.slice A1 n1 c1) (.slice A2 n2 c2) T ∧ Below W1.heap.size W1 W) (by kernel_rfl) hS.out (fun hHeld => ?_)
        refine take_d (some 31) (i := 0) (v := ?_) rfl rfl (by kernel_rfl) (by kernel_rfl) (by kernel_rfl) (fun _ _ _ h => h) (Or.inl ⟨by rfl, ?_⟩) (by assumption) ?_
        rotate_left
        · intro w hSw; (try dsimp only at hSw); go_simp; (try with_reducible rfl)
        try simp only [Act.put, List.setIfInBounds_toArray, List.set_cons_zero, List.set_cons_succ]
        refine take_d (some 32) (i := 1) (v := ?_) rfl rfl (by kernel_rfl) (by kernel_rfl) (by kernel_rfl) (fun _ _ _ h => h) (Or.inl ⟨by rfl, ?_⟩) (by assumption) ?_
        rotate_left
        · intro w hSw; (try dsimp only at hSw); go_simp; (try with_reducible rfl)
        try simp only [Act.put, List.setIfInBounds_toArray, List.set_cons_zero, List.set_cons_succ]
        refine take_d (some 34) (i := 3) (v := ?_) rfl rfl (by kernel_rfl) (by kernel_rfl) (by kernel_rfl) (fun _ _ _ h => h) (Or.inl ⟨by rfl, ?_⟩) (by assumption) ?_
        rotate_left
        · intro w hSw; (try dsimp only at hSw); go_simp; (try with_reducible rfl)
        try simp only [Act.put, List.setIfInBounds_toArray, List.set_cons_zero, List.set_cons_succ]
        refine take_d (some 35) (i := 4) (v := ?_) rfl rfl (by kernel_rfl) (by kernel_rfl) (by kernel_rfl) (fun _ _ _ h => h) (Or.inl ⟨by rfl, ?_⟩) (by assumption) ?_
        rotate_left
        · intro w hSw; (try dsimp only at hSw); go_simp; (try with_reducible rfl)
        try simp only [Act.put, List.setIfInBounds_toArray, List.set_cons_zero, List.set_cons_succ]
        refine take_d (some 36) (i := 5) (v := ?_) rfl rfl (by kernel_rfl) (by kernel_rfl) (by kernel_rfl) (fun _ _ _ h => h) (Or.inl ⟨by rfl, ?_⟩) (by assumption) ?_
        rotate_left
        · intro w hSw; (try dsimp only at hSw); go_simp; (try with_reducible rfl)
        try simp only [Act.put, List.setIfInBounds_toArray, List.set_cons_zero, List.set_cons_succ]
        refine take_d (some 37) (i := 6) (v := ?_) rfl rfl (by kernel_rfl) (by kernel_rfl) (by kernel_rfl) (fun _ _ _ h => h) (Or.inl ⟨by rfl, ?_⟩) (by assumption) ?_
        rotate_left
        · intro w hSw; (try dsimp only at hSw); go_simp; (try with_reducible rfl)
        try simp only [Act.put, List.setIfInBounds_toArray, List.set_cons_zero, List.set_cons_succ]
        refine wpAnyH_ready (rs := [2]) (by kernel_rfl) (by simp) ?_
        refine AllReadyH.cons rfl (fun K hK => ?_) AllReadyH.nil
        go_simp
        refine (ruses_run P 2 T _ _ _ _ (stT (by assumption))).mono ?_; rintro e WK ⟨rfl, hbK⟩; have hSK := stKeep (by assumption) hbK; rw [HUU.out]
        go_wp2_with fail
        refine hK.out _ _ ?_ (fun hHeld => ?_)
        · exact hSK
        clear hK K
        try simp only [Act.put, List.setIfInBounds_toArray, List.set_cons_zero, List.set_cons_succ]
        refine take_d (some 38) (i := 7) (v := ?_) rfl rfl (by kernel_rfl) (by kernel_rfl) (by kernel_rfl) (fun _ _ _ h => h) (Or.inl ⟨by rfl, ?_⟩) (by assumption) ?_
        rotate_left
        · intro w hSw; (try dsimp only at hSw); go_simp; (try with_reducible rfl)
        try simp only [Act.put, List.setIfInBounds_toArray, List.set_cons_zero, List.set_cons_succ]
        refine wpAnyH_done (by kernel_rfl) ?_ _
        refine NoPanic.normal ?_
        have HB6 := Lib.hid (hSK.2.2.2.2.2)
        clear hSK hHeld hS
        go_wp2_with fail
        go_roundw
        case rel => exact ⟨k + 1, by omega, by go_num, HB6⟩
        case measure => simp [intOf]; omega
    · obtain rfl : k = ms.length := by omega
      go_wp2_with fail
      go_ret
      exact ⟨rfl, by
        have h1 := HB.out
        rw [← HG.out] at h1
        exact bstep h1 hB.out⟩

/-- What the reference's Holds returns. -/
def RHolds (ms : List Mem) (e : Ending) : Prop := ∃ b : Bool, e = .returned (.tuple #[.bool b, .int .i64 0]) ∧ (b = true ↔ ∀ t, ¬ Apart 2 ms t)

end Go.Proofs.YtcngpfffhjbiaaaDoor

namespace Go.Proofs.YtcngpfffhjbiaaaDoor
set_option linter.unusedVariables false
set_option linter.unusedSimpArgs false
open Go.RowKit

/-- A set without a node. -/
def offS (s k : Nat) : Nat := s ^^^ (s &&& 2 ^ k)

theorem offS_bit (s k j : Nat) : (offS s k).testBit j = (s.testBit j && j != k) := by
  unfold offS
  rw [Nat.testBit_xor, Nat.testBit_and, Nat.testBit_two_pow]
  by_cases h : k = j
  · subst h; cases s.testBit k <;> simp
  · have h1 : j ≠ k := fun e => h e.symm
    have h2 : (j != k) = true := by simpa using h1
    rw [h2, decide_eq_false h]
    cases s.testBit j <;> rfl

theorem lt_of_bits {a b n : Nat} (h : ∀ k, a.testBit k = true → b.testBit k = true) (hb : b < n) : a < n := by
  have e : a &&& b = a := by
    apply Nat.eq_of_testBit_eq
    intro k
    rw [Nat.testBit_and]
    cases ha : a.testBit k
    · rfl
    · rw [h k ha]; rfl
  rw [← e]
  exact Nat.lt_of_le_of_lt Nat.and_le_right hb

theorem offS_lt {s k n : Nat} (h : s < n) : offS s k < n := lt_of_bits (fun j hj => by rw [offS_bit, Bool.and_eq_true] at hj; exact hj.1) h

theorem off_fact (s k : Nat) (hs : s < 1024) (hk : k < 10) : bits .andNot .i64 (s : Int) (wrap64 (2 ^ k)) = ((offS s k : Nat) : Int) := by
  have all : ∀ s : Fin 1024, ∀ k : Fin 10, bits .andNot .i64 (s.val : Int) (wrap64 (2 ^ k.val)) = ((offS s.val k.val : Nat) : Int) := by decide +kernel
  exact all ⟨s, hs⟩ ⟨k, hk⟩

theorem off_fact' (s k : Nat) (hs : s < 1024) (hk : k < 10) : bits .andNot .i64 (s : Int) (IntKind.i64.wrap (2 ^ k)) = ((offS s k : Nat) : Int) := by
  have all : ∀ s : Fin 1024, ∀ k : Fin 10, bits .andNot .i64 (s.val : Int) (IntKind.i64.wrap (2 ^ k.val)) = ((offS s.val k.val : Nat) : Int) := by decide +kernel
  exact all ⟨s, hs⟩ ⟨k, hk⟩

/-- Does s block member k? -/
def blkM (d : Nat) (ms : List Mem) (s k : Nat) : Bool := (declS ms ms.length).testBit k && blkB d (trOf ms k) ((offS s k : Nat) : Int)

theorem hasB_compl {n : Nat} (hn : n < 1024) (x : Int) : hasB (1023 - (n : Int)) x = (nodeB x && !n.testBit x.toNat) := by
  have h1 : setB (1023 - (n : Int)) = true := setB_iff.2 ⟨by omega, by omega⟩
  have e : (1023 - (n : Int)).toNat = 2 ^ 10 - (n + 1) := by omega
  unfold hasB
  rw [h1, e, Bool.true_and, Nat.testBit_two_pow_sub_succ (by omega)]
  cases hx : nodeB x
  · rfl
  · obtain ⟨h0, h2⟩ := nodeB_iff.1 hx
    have h3 : decide (x.toNat < 10) = true := decide_eq_true (by omega)
    rw [h3]; rfl

theorem blkB_sub {d : Nat} {T : Tree} {a b : Nat} (hb : b < 1024) (h : Sub a b) (h1 : blkB d T (a : Int) = true) : blkB d T (b : Int) = true := by
  have ha : a < 1024 := lt_of_bits h hb
  unfold blkB at h1 ⊢
  rw [Bool.and_eq_true] at h1 ⊢
  refine ⟨setB_iff.2 ⟨by omega, by omega⟩, ?_⟩
  have h2 := h1.2
  cases hx : holdsT d (hasB (1023 - (b : Int))) T
  · rfl
  · rw [holdsT_monoA (p := hasB (1023 - (b : Int))) (q := hasB (1023 - (a : Int))) (fun x hx => ?_) d T hx] at h2
    · cases h2
    · rw [hasB_compl hb, Bool.and_eq_true] at hx
      rw [hasB_compl ha, Bool.and_eq_true]
      refine ⟨hx.1, ?_⟩
      cases ht : a.testBit x.toNat
      · rfl
      · rw [h _ ht] at hx; simp at hx

theorem blkM_sub {d : Nat} {ms : List Mem} {a b k : Nat} (hb : b < 1024) (h : Sub a b) (h1 : blkM d ms a k = true) : blkM d ms b k = true := by
  unfold blkM at h1 ⊢
  rw [Bool.and_eq_true] at h1 ⊢
  refine ⟨h1.1, blkB_sub (offS_lt hb) (fun j hj => ?_) h1.2⟩
  rw [offS_bit, Bool.and_eq_true] at hj ⊢
  exact ⟨h j hj.1, hj.2⟩

/-- Is k in a closed set in S? -/
noncomputable def rdyB (d : Nat) (ms : List Mem) (S k : Nat) : Bool := @decide (∃ Q, Q < 1024 ∧ Sub Q S ∧ Closed d ms Q ∧ Q.testBit k = true) (Classical.propDecidable _)

theorem rdyB_iff {d : Nat} {ms : List Mem} {S k : Nat} : rdyB d ms S k = true ↔ ∃ Q, Q < 1024 ∧ Sub Q S ∧ Closed d ms Q ∧ Q.testBit k = true := by unfold rdyB; exact @decide_eq_true_iff _ (Classical.propDecidable _)

theorem rdyB_gr {d : Nat} {ms : List Mem} {S G k : Nat} (hG : G < 1024) (h : IsGr d ms S G) : rdyB d ms S k = G.testBit k := by
  rw [Bool.eq_iff_iff, rdyB_iff]
  exact ⟨fun ⟨Q, h1, h2, h3, h4⟩ => h.most Q h1 h2 h3 k h4, fun h1 => ⟨G, hG, h.sub, h.closed, h1⟩⟩

theorem rdyB_sub {d : Nat} {ms : List Mem} {S S' k : Nat} (h : Sub S S') (h1 : rdyB d ms S k = true) : rdyB d ms S' k = true := by
  obtain ⟨Q, h2, h3, h4, h5⟩ := rdyB_iff.1 h1
  exact rdyB_iff.2 ⟨Q, h2, fun j hj => h j (h3 j hj), h4, h5⟩

/-- May k accept, by votes and acceptances? -/
noncomputable def accB (d : Nat) (ms : List Mem) (k a b : Nat) : Bool := blkM d ms b k || rdyB d ms ((a ||| b) &&& declS ms ms.length) k

noncomputable def cnfB (d : Nat) (ms : List Mem) (k b : Nat) : Bool := rdyB d ms (b &&& declS ms ms.length) k

theorem sub_and_and {a b D : Nat} (h : Sub a b) : Sub (a &&& D) (b &&& D) := fun k hk => by
  rw [Nat.testBit_and, Bool.and_eq_true] at hk ⊢
  exact ⟨h k hk.1, hk.2⟩

theorem accB_sub {d : Nat} {ms : List Mem} {k a b x y : Nat} (hy : y < 1024) (h1 : Sub a x) (h2 : Sub b y) (h : accB d ms k a b = true) : accB d ms k x y = true := by
  unfold accB at h ⊢
  rw [Bool.or_eq_true] at h ⊢
  rcases h with h | h
  · exact .inl (blkM_sub hy h2 h)
  · refine .inr (rdyB_sub (sub_and_and (fun j hj => ?_)) h)
    rw [Nat.testBit_or, Bool.or_eq_true] at hj ⊢
    exact hj.elim (fun h => .inl (h1 j h)) (fun h => .inr (h2 j h))

theorem cnfB_sub {d : Nat} {ms : List Mem} {k b y : Nat} (h : Sub b y) (h1 : cnfB d ms k b = true) : cnfB d ms k y = true := rdyB_sub (sub_and_and h) h1

theorem cnf_acc1 {d : Nat} {ms : List Mem} {k b : Nat} (h1 : cnfB d ms k b = true) : accB d ms k 0 b = true := by
  unfold accB
  rw [Bool.or_eq_true, Nat.zero_or]
  exact .inr h1

theorem cnf_acc2 {d : Nat} {ms : List Mem} {k b : Nat} (h1 : cnfB d ms k b = true) : accB d ms k b 0 = true := by
  unfold accB
  rw [Bool.or_eq_true, Nat.or_zero]
  exact .inr h1

theorem sub_orL {a b : Nat} : Sub a (a ||| b) := fun k hk => by rw [Nat.testBit_or, hk]; rfl

end Go.Proofs.YtcngpfffhjbiaaaDoor

namespace Go.Proofs.YtcngpfffhjbiaaaDoor
set_option linter.unusedVariables false
set_option linter.unusedSimpArgs false
open Go.RowKit

def thrOf : Tree → Int | .mk t _ _ => t

def deadT (T : Tree) : Bool := decide (thrOf T ≤ 0)

/-- A trust without the nodes of a set. -/
def lessT (s : Nat) : Nat → Tree → Tree
  | 0, T => T
  | d + 1, .mk thr ns is => .mk ((thr.toNat - cnt (hasB (s : Int)) ns - cnt deadT (is.map (lessT s d)) : Nat) : Int) (ns.filter (fun k => !hasB (s : Int) k)) ((is.map (lessT s d)).filter (fun T => !deadT T))

/-- A trust after the deletion of a set at a node. -/
def delT (s k d : Nat) (T : Tree) : Tree := if deadT (lessT s d T) then .mk 1 [(k : Int)] [] else lessT s d T

def delOne (s k : Nat) (m : Mem) : Mem := if hasB (s : Int) (k : Int) then (false, .mk 0 [] []) else if m.1 then (true, delT s k 2 m.2) else m

def delM (s : Nat) (ms : List Mem) : List Mem := ms.mapIdx (fun k m => delOne s k m)

theorem delM_len (s : Nat) (ms : List Mem) : (delM s ms).length = ms.length := by unfold delM; simp

theorem delM_get {s : Nat} {ms : List Mem} {k : Nat} {m : Mem} (h : ms[k]? = some m) : (delM s ms)[k]? = some (delOne s k m) := by
  unfold delM
  rw [List.getElem?_mapIdx, h]; rfl

theorem cnt_split {α β : Type} (P : α → Bool) (f : α → β) (dead good : β → Bool) : ∀ (l : List α), (∀ x ∈ l, P x = true → dead (f x) = true ∨ good (f x) = true) → cnt P l ≤ cnt dead (l.map f) + cnt good ((l.map f).filter (fun y => !dead y))
  | [], _ => by simp [cnt]
  | x :: l, h => by
    have ih := cnt_split P f dead good l (fun y hy => h y (List.mem_cons_of_mem _ hy))
    have h1 := h x List.mem_cons_self
    unfold cnt at *
    rw [List.map_cons, List.filter_cons, List.filter_cons, List.filter_cons]
    cases hd : dead (f x)
    · cases hp : P x
      · simp
        cases hg : good (f x) <;> simp [List.filter_cons, hg] <;> simp at ih <;> omega
      · have hg : good (f x) = true := by
          rcases h1 hp with h2 | h2
          · rw [hd] at h2; cases h2
          · exact h2
        simp [List.filter_cons, hg]
        simp at ih
        omega
    · cases hp : P x
      · simp; simp at ih; omega
      · simp; simp at ih; omega

theorem cnt_two {α : Type} (p : α → Bool) (l : List α) : cnt p l + (l.filter (fun x => !p x)).length = l.length := by
  induction l with
  | nil => rfl
  | cons x l ih =>
    unfold cnt at *
    rw [List.filter_cons, List.filter_cons]
    cases hp : p x
    · simp; omega
    · simp; omega

theorem less_holds {n : Int} {s : Nat} {p q : Int → Bool} (h : ∀ x, p x = true → hasB (s : Int) x = false → q x = true) : ∀ (d : Nat) (T : Tree), WF n d T → holdsT d p T = true → deadT (lessT s d T) = true ∨ holdsT d q (lessT s d T) = true
  | 0, T, w, _ => w.elim
  | d + 1, .mk thr ns is, w, hh => by
    obtain ⟨h1, _, _, _, _, _, hi⟩ := w
    have hh : thr ≤ ((cnt p ns + cnt (holdsT d p) is : Nat) : Int) := of_decide_eq_true hh
    have e1 := cnt_split p id (hasB (s : Int)) q ns (fun x _ hp => by
      cases hb : hasB (s : Int) x
      · exact .inr (h x hp hb)
      · exact .inl hb)
    have e2 := cnt_split (holdsT d p) (lessT s d) deadT (holdsT d q) is (fun T hT hp => less_holds h d T (hi T hT) hp)
    rw [List.map_id] at e1
    show decide ((((thr.toNat - cnt (hasB (s : Int)) ns - cnt deadT (is.map (lessT s d)) : Nat)) : Int) ≤ 0) = true ∨ decide ((((thr.toNat - cnt (hasB (s : Int)) ns - cnt deadT (is.map (lessT s d)) : Nat)) : Int) ≤ ((cnt q (ns.filter (fun k => !hasB (s : Int) k)) + cnt (holdsT d q) ((is.map (lessT s d)).filter (fun T => !deadT T)) : Nat) : Int)) = true
    right
    refine decide_eq_true ?_
    omega

theorem less_wf {n : Int} {s : Nat} : ∀ (d : Nat) (T : Tree), WF n d T → deadT (lessT s d T) = false → WF n d (lessT s d T)
  | 0, T, w, _ => w.elim
  | d + 1, .mk thr ns is, w, hd => by
    obtain ⟨h1, h2, h3, h4, h5, h6, hi⟩ := w
    have hd : ¬ (((thr.toNat - cnt (hasB (s : Int)) ns - cnt deadT (is.map (lessT s d)) : Nat)) : Int) ≤ 0 := of_decide_eq_false hd
    have e1 := cnt_two (hasB (s : Int)) ns
    have e2 := cnt_two deadT (is.map (lessT s d))
    rw [List.length_map] at e2
    refine ⟨by omega, by omega, Nat.le_trans (List.length_filter_le _ _) h3, by omega, fun x hx => h5 x (List.mem_filter.1 hx).1, h6.filter _, fun T hT => ?_⟩
    obtain ⟨hm, hdt⟩ := List.mem_filter.1 hT
    obtain ⟨T0, h0, rfl⟩ := List.mem_map.1 hm
    exact less_wf d T0 (hi T0 h0) (by simpa using hdt)

theorem delT_wf {n : Int} {s k d : Nat} {T : Tree} (hk : (k : Int) < n) (h : WF n (d + 1) T) : WF n (d + 1) (delT s k (d + 1) T) := by
  unfold delT
  cases hd : deadT (lessT s (d + 1) T)
  · exact less_wf _ _ h hd
  · exact (Fine.single (D := d) (n := n) (r := (k : Int)) (by omega) hk).1

theorem delM_ok {s : Nat} {ms : List Mem} (h : MemsOk ms.length ms) : MemsOk (delM s ms).length (delM s ms) := by
  intro x hx
  obtain ⟨k, hk, he⟩ := List.getElem_of_mem hx
  rw [delM_len] at hk ⊢
  have hm : ms[k]? = some ms[k] := List.getElem?_eq_getElem hk
  have h1 := delM_get (s := s) hm
  rw [List.getElem?_eq_getElem (by rw [delM_len]; exact hk), he] at h1
  have hx1 : x = delOne s k ms[k] := Option.some.inj h1
  have h0 := h ms[k] (List.getElem_mem hk)
  rw [hx1]
  unfold delOne
  cases hb : hasB (s : Int) (k : Int)
  · simp only [Bool.false_eq_true, if_false]
    cases hd : ms[k].1
    · simp only [Bool.false_eq_true, if_false]; exact h0
    · simp only [if_true]
      exact ⟨fun _ => delT_wf (by omega) (h0.1 hd), fun h => (by cases h)⟩
  · simp only [if_true]
    exact ⟨fun h => (by cases h), fun _ => trivial⟩

theorem declS_iff {ms : List Mem} (k : Nat) : ∀ (n : Nat), (declS ms n).testBit k = (decide (k < n) && (ms.getD k (false, .mk 0 [] [])).1)
  | 0 => by simp [declS]
  | n + 1 => by
    have ih := declS_iff (ms := ms) k n
    unfold declS
    by_cases hkn : k = n
    · subst hkn
      cases hd : (ms.getD k (false, .mk 0 [] [])).1
      · rw [if_neg (by simp), ih]; simp [hd]
      · rw [if_pos rfl, Nat.testBit_or, Nat.testBit_two_pow_self]; simp
    · have e : decide (k < n + 1) = decide (k < n) := by rw [decide_eq_decide]; omega
      rw [e]
      split
      · rw [Nat.testBit_or, ih, Nat.testBit_two_pow_of_ne (by omega)]; simp
      · exact ih

def minS (q s : Nat) : Nat := q ^^^ (q &&& s)

theorem minS_bit (q s k : Nat) : (minS q s).testBit k = (q.testBit k && !s.testBit k) := by
  unfold minS
  rw [Nat.testBit_xor, Nat.testBit_and]
  cases q.testBit k <;> cases s.testBit k <;> rfl

theorem minS_lt {q s : Nat} (h : q < 1024) : minS q s < 1024 := Nat.xor_lt_two_pow (n := 10) h (Nat.lt_of_le_of_lt Nat.and_le_left h)

/-- A closed set of a configuration that differs from another one only in a set is, without it, closed after its deletion. -/
theorem shown_closed {ms xs : List Mem} {s Q : Nat} (hl : ms.length ≤ 10) (hx : xs.length = ms.length) (hs : s < 1024) (hQ : Q < 1024) (hok : MemsOk ms.length ms)
    (hsame : ∀ k, k < ms.length → s.testBit k = false → xs[k]? = ms[k]?) (hsub : Sub Q (declS xs xs.length)) (hc : Closed 2 xs Q) :
    Sub (minS Q s) (declS (delM s ms) (delM s ms).length) ∧ Closed 2 (delM s ms) (minS Q s) := by
  have key : ∀ k, (minS Q s).testBit k = true → k < ms.length ∧ ∃ m, ms[k]? = some m ∧ xs[k]? = some m ∧ m.1 = true ∧ hasB (s : Int) (k : Int) = false ∧ Q.testBit k = true := by
    intro k hk
    rw [minS_bit, Bool.and_eq_true, Bool.not_eq_true'] at hk
    have h1 := hsub k hk.1
    rw [declS_iff, Bool.and_eq_true, decide_eq_true_eq, hx] at h1
    have hm : ms[k]? = some ms[k] := List.getElem?_eq_getElem h1.1
    have hxk := (hsame k h1.1 hk.2).trans hm
    have h2 := h1.2
    rw [List.getD_eq_getElem?_getD, hxk] at h2
    exact ⟨h1.1, ms[k], hm, hxk, h2, by rw [hasB_bit hs (by omega)]; exact hk.2, hk.1⟩
  constructor
  · intro k hk
    obtain ⟨h1, m, hm, _, hd, hb, _⟩ := key k hk
    rw [declS_iff, Bool.and_eq_true, decide_eq_true_eq, delM_len, List.getD_eq_getElem?_getD, delM_get hm]
    refine ⟨h1, ?_⟩
    show (delOne s k m).1 = true
    unfold delOne
    rw [hb, hd]; rfl
  · intro k hk
    rw [delM_len] at hk
    unfold uns
    cases hbk : (minS Q s).testBit k
    · rw [hasB_bit (minS_lt hQ) (by omega), hbk]; rfl
    · obtain ⟨_, m, hm, hxm, hd, hb, hQk⟩ := key k hbk
      have ht : trOf (delM s ms) k = delT s k 2 m.2 := by
        unfold trOf
        rw [List.getD_eq_getElem?_getD, delM_get hm]
        show (delOne s k m).2 = _
        unfold delOne
        rw [hb, hd]; rfl
      have hcx := hc k (by omega)
      unfold uns at hcx
      have htx : trOf xs k = m.2 := by unfold trOf; rw [List.getD_eq_getElem?_getD, hxm]; rfl
      rw [htx, hasB_bit hQ (by omega), hQk, Bool.true_and, Bool.not_eq_false'] at hcx
      rw [ht]
      have hsat : satB 2 (delT s k 2 m.2) ((minS Q s : Nat) : Int) = true := by
        have hv : setB ((minS Q s : Nat) : Int) = true := setB_iff.2 ⟨by omega, by have := minS_lt (s := s) hQ; omega⟩
        unfold satB at hcx ⊢
        rw [Bool.and_eq_true] at hcx ⊢
        refine ⟨hv, ?_⟩
        have hpq : ∀ x : Int, hasB (Q : Int) x = true → hasB (s : Int) x = false → hasB ((minS Q s : Nat) : Int) x = true := by
          intro x hx1 hx2
          have hx1' := hx1
          unfold hasB at hx1
          rw [Bool.and_eq_true, Bool.and_eq_true] at hx1
          obtain ⟨h0, h10⟩ := nodeB_iff.1 hx1.2.1
          obtain ⟨X, rfl⟩ := Int.eq_ofNat_of_zero_le h0
          rw [hasB_bit hQ (by omega)] at hx1'
          rw [hasB_bit hs (by omega)] at hx2
          rw [hasB_bit (minS_lt hQ) (by omega), minS_bit, hx1', hx2]; rfl
        have hw := (hok m (List.mem_of_getElem? hm)).1 hd
        unfold delT
        cases hdd : deadT (lessT s 2 m.2)
        · rw [if_neg (by simp)]
          rcases less_holds hpq 2 m.2 hw hcx.2 with h3 | h3
          · rw [hdd] at h3; cases h3
          · exact h3
        · rw [if_pos rfl]
          refine decide_eq_true ?_
          have hkb : hasB ((minS Q s : Nat) : Int) (k : Int) = true := by rw [hasB_bit (minS_lt hQ) (by omega)]; exact hbk
          have : cnt (hasB ((minS Q s : Nat) : Int)) [(k : Int)] = 1 := by unfold cnt; rw [List.filter_cons, hkb]; rfl
          rw [this]
          simp
          omega
      rw [hsat]; simp

/-- T1. -/
theorem fed_safe {ms xs ys : List Mem} {s v w a b : Nat} (hl : ms.length ≤ 10) (hx : xs.length = ms.length) (hy : ys.length = ms.length) (hs : s < 1024) (hok : MemsOk ms.length ms)
    (hxs : ∀ k, k < ms.length → s.testBit k = false → xs[k]? = ms[k]?) (hys : ∀ k, k < ms.length → s.testBit k = false → ys[k]? = ms[k]?)
    (hno : ∀ t, ¬ Apart 2 (delM s ms) t) (hv : s.testBit v = false) (hw : s.testBit w = false) (h1 : cnfB 2 xs v a = true) (h2 : cnfB 2 ys w b = true) :
    ∃ k, a.testBit k = true ∧ b.testBit k = true ∧ s.testBit k = false := by
  obtain ⟨Q, hQ, q1, q2, q3⟩ := rdyB_iff.1 h1
  obtain ⟨R, hR, r1, r2, r3⟩ := rdyB_iff.1 h2
  obtain ⟨c1, c2⟩ := shown_closed hl hx hs hQ hok hxs (fun k hk => by have := q1 k hk; rw [Nat.testBit_and, Bool.and_eq_true] at this; exact this.2) q2
  obtain ⟨c3, c4⟩ := shown_closed hl hy hs hR hok hys (fun k hk => by have := r1 k hk; rw [Nat.testBit_and, Bool.and_eq_true] at this; exact this.2) r2
  refine Classical.byContradiction (fun hn => hno (minS Q s) ⟨⟨?_, c1, c2⟩, minS R s, minS_lt hR, ?_, ?_, c4⟩)
  · intro h0
    have : (minS Q s).testBit v = true := by rw [minS_bit, q3, hv]; rfl
    rw [h0] at this; simp at this
  · intro h0
    have : (minS R s).testBit w = true := by rw [minS_bit, r3, hw]; rfl
    rw [h0] at this; simp at this
  · intro k hk
    have hd := c3 k hk
    have hkl := declS_bit hd
    rw [Nat.testBit_and, Bool.and_eq_true, outS_bit, Bool.and_eq_true, decide_eq_true_eq, Bool.not_eq_true']
    refine ⟨⟨hkl, ?_⟩, hd⟩
    cases hq : (minS Q s).testBit k
    · rfl
    · exfalso
      rw [minS_bit, Bool.and_eq_true, Bool.not_eq_true'] at hq hk
      have e1 := q1 k hq.1
      have e2 := r1 k hk.1
      rw [Nat.testBit_and, Bool.and_eq_true] at e1 e2
      exact hn ⟨k, e1.1, e2.1, hq.2⟩

end Go.Proofs.YtcngpfffhjbiaaaDoor

namespace Go.Proofs.YtcngpfffhjbiaaaDoor
set_option linter.unusedVariables false
open Go.RowKit

/-- Member k of the restricted configuration. -/
def resM (s : Nat) (ms : List Mem) (k : Nat) : Mem := if s.testBit k then ms.getD k (false, .mk 0 [] []) else (false, .mk 0 [] [])

def restM (s : Nat) (ms : List Mem) (n : Nat) : List Mem := (List.range n).map (resM s ms)

theorem restM_len (s : Nat) (ms : List Mem) (n : Nat) : (restM s ms n).length = n := by unfold restM; rw [List.length_map, List.length_range]

theorem restM_succ (s : Nat) (ms : List Mem) (n : Nat) : restM s ms (n + 1) = restM s ms n ++ [resM s ms n] := by unfold restM; rw [List.range_succ, List.map_append]; rfl

theorem restM_get (s : Nat) (ms : List Mem) (n k : Nat) (h : k < n) : (restM s ms n)[k]? = some (resM s ms k) := by
  unfold restM; rw [List.getElem?_map, List.getElem?_range h]; rfl

theorem restM_decl (s : Nat) (ms : List Mem) (n : Nat) (hn : n = ms.length) : ∀ k, k ≤ n → declS (restM s ms n) k = declS ms k &&& s
  | 0, _ => by unfold declS; simp
  | k + 1, h => by
    have ih := restM_decl s ms n hn k (by omega)
    have hg : (restM s ms n).getD k (false, .mk 0 [] []) = resM s ms k := by rw [List.getD_eq_getElem?_getD, restM_get s ms n k (by omega)]; rfl
    show (if ((restM s ms n).getD k (false, .mk 0 [] [])).1 then declS (restM s ms n) k ||| 2 ^ k else declS (restM s ms n) k) = (if (ms.getD k (false, .mk 0 [] [])).1 then declS ms k ||| 2 ^ k else declS ms k) &&& s
    rw [hg, ih]
    unfold resM
    by_cases hb : s.testBit k = true
    · rw [if_pos hb]
      split
      · apply Nat.eq_of_testBit_eq
        intro j
        simp only [Nat.testBit_or, Nat.testBit_and, Nat.testBit_two_pow]
        by_cases hj : k = j
        · subst hj; simp [hb]
        · simp [hj]
      · rfl
    · rw [if_neg hb]
      simp only [Bool.false_eq_true, if_false]
      split
      · apply Nat.eq_of_testBit_eq
        intro j
        simp only [Nat.testBit_or, Nat.testBit_and, Nat.testBit_two_pow]
        by_cases hj : k = j
        · subst hj; simp [hb]
        · simp [hj]
      · rfl

/-- Within the set the restricted configuration says the same. -/
theorem restM_uns {d s : Nat} {ms : List Mem} {q k : Nat} (hk : k < ms.length) (hl : ms.length ≤ 10) (hq : q < 1024) (hs : Sub q s) : uns d (restM s ms ms.length) q k = uns d ms q k := by
  unfold uns
  rw [hasB_bit hq (by omega)]
  cases hb : q.testBit k
  · rfl
  · have h1 : trOf (restM s ms ms.length) k = trOf ms k := by
      unfold trOf
      rw [List.getD_eq_getElem?_getD, restM_get s ms ms.length k hk]
      show (resM s ms k).2 = _
      unfold resM
      rw [if_pos (hs k hb)]
    rw [h1]

theorem restM_closed {d s : Nat} {ms : List Mem} {q : Nat} (hl : ms.length ≤ 10) (hq : q < 1024) (hs : Sub q s) : Closed d (restM s ms ms.length) q ↔ Closed d ms q := by
  unfold Closed
  rw [restM_len]
  exact ⟨fun h k hk => by rw [← restM_uns hk hl hq hs]; exact h k hk, fun h k hk => by rw [restM_uns hk hl hq hs]; exact h k hk⟩

/-- The greatest closed set in y of the restricted one is that in the common part. -/
theorem restM_gr {d x y D : Nat} {ms : List Mem} {G H : Nat} (hl : ms.length ≤ 10) (hG : G < 1024) (hH : H < 1024) (h1 : IsGr d (restM x ms ms.length) (y &&& (D &&& x)) G) (h2 : IsGr d ms ((x &&& y) &&& D) H) : G = H := by
  have g1 := (sub_and.1 (sub_and.1 h1.sub).2)
  have g2 := (sub_and.1 h1.sub).1
  have k1 := sub_and.1 h2.sub
  have k2 := sub_and.1 k1.1
  exact sub_antisymm (h2.most G hG (sub_and.2 ⟨sub_and.2 ⟨g1.2, g2⟩, g1.1⟩) ((restM_closed hl hG g1.2).1 h1.closed))
    (h1.most H hH (sub_and.2 ⟨k2.2, sub_and.2 ⟨k1.2, k2.1⟩⟩) ((restM_closed hl hH k2.1).2 h2.closed))

end Go.Proofs.YtcngpfffhjbiaaaDoor

namespace Go.Proofs.YtcngpfffhjbiaaaDoor
set_option linter.unusedVariables false
open Go.RowKit

theorem bit0_fact (S K : Nat) (h : S < 1024) (hK : K < 10) : (bits .and .i64 ((S : Int) / 2 ^ K) 1 == 0) = !S.testBit K := by
  have all : ∀ S : Fin 1024, ∀ K : Fin 10, (bits .and .i64 ((S.val : Int) / 2 ^ K.val) 1 == 0) = !S.val.testBit K.val := by decide +kernel
  exact all ⟨S, h⟩ ⟨K, hK⟩

/-- Members in a row of its own, with trusts that lie below B0. -/
def RowT (B0 B d : Nat) (W : World) (v : Value) (rs : List Mem) : Prop :=
  ∃ cs : List Value, W.ownsRow B 49 4 v rs.length cs ∧ ∀ k m, rs[k]? = some m → ∃ x0 x1 x2, cs[k * 4]? = some (.bool m.1) ∧ cs[k * 4 + 1]? = some x0 ∧ cs[k * 4 + 2]? = some x1 ∧ cs[k * 4 + 3]? = some x2 ∧ TAt (fun b => b < B0) d W x0 x1 x2 m.2

theorem RowT.app {B0 B d : Nat} {wo W5 : World} {v' x0 x1 x2 : Value} {rs : List Mem} {m : Mem} {cs : List Value}
    (hcl : ∀ k m, rs[k]? = some m → ∃ x0 x1 x2, cs[k * 4]? = some (.bool m.1) ∧ cs[k * 4 + 1]? = some x0 ∧ cs[k * 4 + 2]? = some x1 ∧ cs[k * 4 + 3]? = some x2 ∧ TAt (fun b => b < B0) d wo x0 x1 x2 m.2) (hcn : cs.length = rs.length * 4)
    (keep : ∀ q, q < B0 → q < wo.heap.size → W5.heap[q]? = wo.heap[q]?) (hT : TAt (fun b => b < B0) d wo x0 x1 x2 m.2) (hown5 : W5.ownsRow B 49 4 v' (rs.length + 1) (cs ++ [.bool m.1, x0, x1, x2])) : RowT B0 B d W5 v' (rs ++ [m]) := by
  refine ⟨cs ++ [.bool m.1, x0, x1, x2], by simpa using hown5, fun k S hS => ?_⟩
  rcases Nat.lt_or_ge k rs.length with hk | hk
  · rw [List.getElem?_append_left hk] at hS
    obtain ⟨y0, y1, y2, e0, e1, e2, e3, e4⟩ := hcl k S hS
    exact ⟨y0, y1, y2, by rw [List.getElem?_append_left (by omega)]; exact e0, by rw [List.getElem?_append_left (by omega)]; exact e1, by rw [List.getElem?_append_left (by omega)]; exact e2, by rw [List.getElem?_append_left (by omega)]; exact e3, e4.keep (fun q hq hP => keep q hP hq)⟩
  · have hk2 : k = rs.length := by
      have := (List.getElem?_eq_some_iff.1 hS).1
      simp at this; omega
    subst hk2
    have hS' : S = m := by simpa using hS.symm
    subst hS'
    refine ⟨x0, x1, x2, ?_, ?_, ?_, ?_, hT.keep (fun q hq hP => keep q hP hq)⟩
    · rw [List.getElem?_append_right (by omega)]; simp [hcn]
    · rw [List.getElem?_append_right (by omega), show rs.length * 4 + 1 - cs.length = 1 by omega]; rfl
    · rw [List.getElem?_append_right (by omega), show rs.length * 4 + 2 - cs.length = 2 by omega]; rfl
    · rw [List.getElem?_append_right (by omega), show rs.length * 4 + 3 - cs.length = 3 by omega]; rfl

theorem RowT.keep {B0 B d : Nat} {W W' : World} {v : Value} {rs : List Mem} (h : RowT B0 B d W v rs) (hk : ∀ q, q < W.heap.size → (q < B0 ∨ B ≤ q) → W'.heap[q]? = W.heap[q]?) : RowT B0 B d W' v rs := by
  obtain ⟨cs, h1, h2⟩ := h
  refine ⟨cs, own_keepG h1 (fun j _ hB hl => hk j hl (.inr hB)), fun k m hm => ?_⟩
  obtain ⟨x0, x1, x2, e0, e1, e2, e3, e4⟩ := h2 k m hm
  exact ⟨x0, x1, x2, e0, e1, e2, e3, e4.keep (fun q hq hP => hk q hq (.inl hP))⟩

theorem RowT.mems {B0 B d : Nat} {W : World} {v : Value} {rs : List Mem} (h : RowT B0 B d W v rs) : MemsAt (fun _ => True) d W v rs := by
  obtain ⟨cs, h1, h2⟩ := h
  rcases h1.2 with ⟨hv, h0⟩ | ⟨g, cap, cur, hv, hb, _⟩
  · exact ⟨none, 0, by rw [hv, h0], fun k T hT => by have := (List.getElem?_eq_some_iff.1 hT).1; omega⟩
  · refine ⟨some ⟨g, 0, none⟩, cap, hv, fun k m hm => ?_⟩
    obtain ⟨x0, x1, x2, e0, e1, e2, e3, e4⟩ := h2 k m hm
    have c : ∀ j u, cs[j]? = some u → W.cell? ⟨g, 0 + j, none⟩ = some u := fun j u hu => by
      have := h1.cells (g := g) (by rw [hv]; rfl) j u hu
      rwa [Addr.add_lit] at this
    exact ⟨g, 0, x0, x1, x2, rfl, trivial, c _ _ e0, by rw [Nat.add_assoc]; exact c _ _ e1, by rw [Nat.add_assoc]; exact c _ _ e2, by rw [Nat.add_assoc]; exact c _ _ e3, e4.imp (fun q _ hq => trivial)⟩

end Go.Proofs.YtcngpfffhjbiaaaDoor

namespace Go.Proofs.YtcngpfffhjbiaaaDoor
set_option linter.unusedVariables false
set_option linter.unusedSimpArgs false
open Go.RowKit

def fN (s : Nat) (l : List Int) : List Int := l.filter (fun k => !hasB (s : Int) k)

def fI (s d : Nat) (l : List Tree) : List Tree := (l.map (lessT s d)).filter (fun T => !deadT T)

theorem fN_len (s : Nat) (l : List Int) : (fN s l).length ≤ l.length := List.length_filter_le _ _

theorem fI_len (s d : Nat) (l : List Tree) : (fI s d l).length ≤ l.length := Nat.le_trans (List.length_filter_le _ _) (by simp)

theorem take_one {α : Type} {l : List α} {j : Nat} {x : α} (h : l[j]? = some x) : l.take (j + 1) = l.take j ++ [x] := by
  rw [List.take_add_one, h]; rfl

theorem fN_take {s : Nat} {l : List Int} {j : Nat} {x : Int} (h : l[j]? = some x) : fN s (l.take (j + 1)) = fN s (l.take j) ++ (if hasB (s : Int) x then [] else [x]) := by
  unfold fN
  rw [take_one h, List.filter_append]
  cases hb : hasB (s : Int) x <;> simp [List.filter_cons, hb]

theorem fI_take {s d : Nat} {l : List Tree} {j : Nat} {x : Tree} (h : l[j]? = some x) : fI s d (l.take (j + 1)) = fI s d (l.take j) ++ (if deadT (lessT s d x) then [] else [lessT s d x]) := by
  unfold fI
  rw [take_one h, List.map_append, List.filter_append]
  cases hb : deadT (lessT s d x) <;> simp [List.filter_cons, hb]

theorem cnt_take1 {α : Type} {p : α → Bool} {l : List α} {j : Nat} {x : α} (h : l[j]? = some x) : cnt p (l.take (j + 1)) = cnt p (l.take j) + (if p x then 1 else 0) := cnt_take_succ p l j x h

theorem TAt.thr {P : Nat → Prop} {d : Nat} {w : World} {t : Int} {v1 v2 : Value} {T : Tree} (h : TAt P d w (.int .i64 t) v1 v2 T) : thrOf T = t := by
  cases d with
  | zero => exact h.elim
  | succ d =>
    obtain ⟨thr, ns, is⟩ := T
    obtain ⟨h1, _⟩ := h.parts
    injection h1 with _ h2
    exact h2.symm

end Go.Proofs.YtcngpfffhjbiaaaDoor

namespace Go.Proofs.YtcngpfffhjbiaaaDoor
set_option linter.unusedVariables false
set_option linter.unusedSimpArgs false
open Go.RowKit

/-- What without returns: whether anything is still needed, and if so the trust. -/
def WithR (s d : Nat) (T R : Tree) : Prop := deadT (lessT s d T) = false → R = lessT s d T

/-- The contract of without. -/
def WithC (s d : Nat) : Prop := ∀ (P : Nat → Prop) (n : Int) (T : Tree) (x0 x1 x2 : Value) (w : World), TAt P d w x0 x1 x2 T → WF n d T →
    Calls Tryd.prog 28 #[.agg #[x0, x1, x2], .int .i64 (s : Int)] w fun e w' => ∃ y0 y1 y2, ∃ R, e = .returned (.tuple #[.agg #[y0, y1, y2], .bool (!deadT (lessT s d T))]) ∧ TAt (fun b => w.heap.size ≤ b) d w' y0 y1 y2 R ∧ WithR s d T R ∧ Below w.heap.size w w'

set_option maxRecDepth 100000 in
set_option maxHeartbeats 8000000 in
theorem with_step (s d : Nat) (hs : s < 1024) (ih : WithC s d) : WithC s (d + 1) := by
  intro P n T x0 x1 x2 w h hWF
  obtain ⟨thr, ns, is⟩ := T
  obtain ⟨i0, hin, hz0, hz1, hz2⟩ := info_parts infoInt
  obtain ⟨i3, hi3, hy0, hy1, hy2⟩ := info_parts infoTrust
  obtain ⟨rfl, hn, hi, hN, hL⟩ := h.parts
  obtain ⟨A, c, rfl⟩ := hN.slice
  obtain ⟨B, c', rfl⟩ := hL.slice
  obtain ⟨ht0, ht1, hl10, hl3, _, _, hWi⟩ := hWF
  obtain ⟨t0, rfl⟩ := Int.eq_ofNat_of_zero_le (show 0 ≤ thr by omega)
  have HWI := Lib.hid hWi
  have HT1 := Lib.hid (show t0 ≤ 13 by omega)
  clear ht1
  have HI := Lib.hid ih
  have hb2 : Below w.heap.size w ((w.alloc (.cells #[.int .i64 (t0 : Int), .slice A ns.length c, .slice B is.length c'] 28)).alloc (.cells #[.int .i64 0, .slice none 0 0, .slice none 0 0] 28)) := balloc (balloc (bref w) _) _
  have k0 : ((w.alloc (.cells #[.int .i64 (t0 : Int), .slice A ns.length c, .slice B is.length c'] 28)).alloc (.cells #[.int .i64 0, .slice none 0 0, .slice none 0 0] 28)).heap[w.heap.size]? = some (.cells #[.int .i64 (t0 : Int), .slice A ns.length c, .slice B is.length c'] 28 (0, 0)) := alloc_on (alloc_at rfl)
  have k1 : OutAt ((w.alloc (.cells #[.int .i64 (t0 : Int), .slice A ns.length c, .slice B is.length c'] 28)).alloc (.cells #[.int .i64 0, .slice none 0 0, .slice none 0 0] 28)) (w.heap.size + 1) 0 (.slice none 0 0) (.slice none 0 0) := alloc_at (alloc_sz _ _)
  have hsz0 : ((w.alloc (.cells #[.int .i64 (t0 : Int), .slice A ns.length c, .slice B is.length c'] 28)).alloc (.cells #[.int .i64 0, .slice none 0 0, .slice none 0 0] 28)).heap.size = w.heap.size + 2 := by rw [alloc_sz, alloc_sz]
  have HN0 := Lib.hid ((hN.both (Q := fun b => b < w.heap.size) (fun _ _ _ => rfl) (fun k hk _ => hk)).below hb2)
  have HL0 := Lib.hid ((hL.both (Q := fun b => b < w.heap.size) (fun _ _ _ => rfl) (fun k hk _ => hk)).below hb2)
  have HB0 := Lib.hid hb2
  have K00 := Lib.hid k0
  have K10 := Lib.hid k1
  have hpos0 : ¬ (t0 : Int) ≤ 0 := by omega
  clear h hb2 k0 k1 hN hL hWi ih
  go_enter Tryd.func28, Tryd.ntmps28
  go_upto_region 1 with fail
  generalize ((w.alloc (.cells #[.int .i64 (t0 : Int), .slice A ns.length c, .slice B is.length c'] 28)).alloc (.cells #[.int .i64 0, .slice none 0 0, .slice none 0 0] 28)) = W0 at *
  generalize hg : w.heap.size = g at *
  have HG := Lib.hid hg
  clear hg
  have b0 : W0.cell? ⟨g, 0, none⟩ = some (.int .i64 (t0 : Int)) := cell_of_row _ _ 0 _ _ (0, 0) K00.out
  have hbA := balloc (bref W0) (.cells #[.int .i64 (t0 : Int), .slice none 0 0, .slice none 0 0] 28)
  have HN := Lib.hid (HN0.out.below hbA)
  have HL := Lib.hid (HL0.out.below hbA)
  have HB := Lib.hid (show Below g w (W0.alloc (.cells #[.int .i64 (t0 : Int), .slice none 0 0, .slice none 0 0] 28)) from by have h1 := HB0.out; exact h1.trans (hbA.mono (by omega)))
  have K0 := Lib.hid (alloc_on (o := .cells #[.int .i64 (t0 : Int), .slice none 0 0, .slice none 0 0] 28) K00.out)
  have K1 := Lib.hid (K10.out.keep (hbA.block _ K10.out.lt))
  have K2 := Lib.hid (show OutAt (W0.alloc (.cells #[.int .i64 (t0 : Int), .slice none 0 0, .slice none 0 0] 28)) (g + 2) (t0 : Int) (.slice none 0 0) (.slice none 0 0) from alloc_at hsz0)
  have hsz : (W0.alloc (.cells #[.int .i64 (t0 : Int), .slice none 0 0, .slice none 0 0] 28)).heap.size = g + 3 := by rw [alloc_sz, hsz0]
  clear hbA HN0 HL0 HB0 K00 K10
  go_upto_region 4 with fail
  generalize W0.alloc (.cells #[.int .i64 (t0 : Int), .slice none 0 0, .slice none 0 0] 28) = W1 at *
  clear b0 hsz0
  have b1 : W1.cell? ⟨g, 1, none⟩ = some (.slice A ns.length c) := cell_of_row _ _ 1 _ _ (0, 0) K0.out
  go_wp2_with fail
  clear b1
  go_loopw [23] (fun t W => ∃ (j : Nat) (v : Value), j ≤ ns.length ∧ t = .int .i64 j ∧ W.ownsRow (g + 3) 3 1 v (fN s (ns.take j)).length ((fN s (ns.take j)).map (Value.int .i64)) ∧ Hid (OutAt W (g + 2) ((t0 : Int) - (cnt (hasB (s : Int)) (ns.take j) : Nat)) v (.slice none 0 0)) ∧ Hid (W1.grownBy W (some (g + 2)))) (fun t _ => ns.length - (intOf t).toNat)
  case atStart => exact ⟨0, .slice none 0 0, by omega, rfl, World.ownsRow_nil _ _ _ _, K2, Lib.hid (World.grownBy.refl _ _)⟩
  case round =>
    obtain ⟨j, v, hj, rfl, hown, hO, hGr⟩ := hrel
    have hwr := hGr.out.size
    obtain ⟨o0, o1, o2⟩ := hO.out.cs
    have of0 := hO.out.fr 0
    have of1 := hO.out.fr 1
    have hol := hO.out.lt
    by_cases hlt : j < ns.length
    · obtain ⟨An, cn, hAn, hNc⟩ := HN.out
      injection hAn with hA1 hA2 hA3
      subst hA1
      subst hA3
      obtain ⟨b, off, rfl, hP, hc⟩ := hNc j hlt
      have hx0 : ns[j]? = some (ns.getD j 0) := by rw [List.getD_eq_getElem?_getD, List.getElem?_eq_getElem hlt]; rfl
      generalize ns.getD j 0 = x at *
      have d1 := (World.cell?_of_block (a := ⟨b, off + j, none⟩) (hGr.out.block b (by omega) (by simp; omega))).trans hc
      have HC := Lib.hid (cnt_take1 (p := hasB (s : Int)) hx0)
      have HF := Lib.hid (fN_take (s := s) hx0)
      have hfl := Nat.le_trans (fN_len s (ns.take j)) (by rw [List.length_take]; exact Nat.min_le_right _ _)
      clear hc hNc hx0
      cases hb : hasB (s : Int) x
      · rw [hb] at HC HF
        rw [if_neg (by simp)] at HC HF
        go_wp2_with fail
        refine (has_run _ _ _).mono ?_
        rintro e w2 ⟨rfl, rfl⟩
        rw [hb]
        have HOB := Lib.hid (fun (q : Nat) (hq : v.ownBlock = some q) => (hown.lt q hq).1)
        go_wp2_with (at_builtin; refine wpList_append_own _ rfl _ _ 22 rfl (g + 3) 3 i0 (.int .i64 0) 1 8 Tryd.underlying22 hin hz0 hz1 hz2 rfl (by decide) _ _ _ rfl (hown.alloc _) ⟨wr.heap.size, 0, none⟩ 1 1 [.int .i64 x] rfl rfl (cell_one_new _ _ _) (fun u hu => by simp at hu; subst hu; rfl) (by unfold maxLen; omega) (by omega) (by simp; omega) ?_; intro v' W2 hown' hgrow hnil; obtain ⟨gq, cq, rfl, hgq, hlq⟩ := hown'.form (by omega); have hO3 := hO.out.keep ((hgrow.block _ (by simp; omega) (fun e => by have := HOB.out _ e.symm; omega)).trans (Below.heap_alloc _ _ _ hol)); obtain ⟨p0, p1, p2⟩ := hO3.cs; have pf1 := hO3.fr 1)
        have hown4 := hown'.kept (gset1 W2 ⟨g + 2, 1, none⟩ (.slice (some ⟨gq, 0, none⟩) ((fN s (ns.take j)).length + 1) cq)) (.inr (by simp [Value.ownBlock]; omega))
        have HOW4 := Lib.hid (own_snoc hown4)
        have HG3 := Lib.hid (grown_at (gown (grown_trans hGr.out (grown_below (balloc (bref wr) (.cells #[.int .i64 x] 3)))) hgrow (fun q hq => by have := HOB.out q hq; omega)) 1 (.slice (some ⟨gq, 0, none⟩) ((fN s (ns.take j)).length + 1) cq))
        have HO4 := Lib.hid (hO3.set1 (.slice (some ⟨gq, 0, none⟩) ((fN s (ns.take j)).length + 1) cq))
        clear hown' hgrow hnil hown hown4
        go_roundw
        case rel => exact ⟨j + 1, _, by omega, by go_num, by rw [HF.out]; simpa using HOW4.out, by rw [HC.out]; exact HO4, HG3⟩
        case measure => simp [intOf]; omega
      · rw [hb] at HC HF
        rw [if_pos rfl] at HC HF
        have HOWN := Lib.hid hown
        have hcl := Nat.le_trans (cnt_le (hasB (s : Int)) (ns.take j)) (by rw [List.length_take]; exact Nat.min_le_right _ _)
        have HSUB := Lib.hid (show (t0 : Int) - (cnt (hasB (s : Int)) (ns.take (j + 1)) : Nat) = (t0 : Int) - (cnt (hasB (s : Int)) (ns.take j) : Nat) - 1 by have := HC.out; omega)
        have hq0 : -20 ≤ (t0 : Int) - (cnt (hasB (s : Int)) (ns.take j) : Nat) := by omega
        have hq1 : (t0 : Int) - (cnt (hasB (s : Int)) (ns.take j) : Nat) ≤ 20 := by have := HT1.out; omega
        generalize (t0 : Int) - (cnt (hasB (s : Int)) (ns.take j) : Nat) = m0 at *
        have HO4 := Lib.hid (hO.out.set0 (m0 - 1))
        have HG3 := Lib.hid (grown_at hGr.out 0 (.int .i64 (m0 - 1)))
        have HOW4 := Lib.hid (HOWN.out.kept (gset1 wr ⟨g + 2, 0, none⟩ (.int .i64 (m0 - 1))) (own_below HOWN.out (by simp)))
        clear hown
        go_wp2_with fail
        refine (has_run _ _ _).mono ?_
        rintro e w2 ⟨rfl, rfl⟩
        rw [hb]
        go_wp2_with fail
        go_roundw
        case rel => exact ⟨j + 1, v, by omega, by go_num, by rw [HF.out, List.append_nil]; exact HOW4.out, by rw [HSUB.out]; exact HO4, HG3⟩
        case measure => simp [intOf]; omega
    · obtain rfl : j = ns.length := by omega
      rw [List.take_length] at hown hO
      have HTK := Lib.hid (show cnt (hasB (s : Int)) (ns.take ns.length) = cnt (hasB (s : Int)) ns by rw [List.take_length])
      have hcl := cnt_le (hasB (s : Int)) ns
      generalize hm0 : (t0 : Int) - (cnt (hasB (s : Int)) ns : Nat) = m0 at *
      have hm13 : m0 ≤ 13 := by have := HT1.out; omega
      have hm10 : -10 ≤ m0 := by omega
      have HM0 := Lib.hid hm0
      clear hm0 hcl
      obtain ⟨A1, c1, rfl⟩ := own_slice hown
      have HOWN := Lib.hid hown
      have HO0 := hO
      have HG0 := hGr
      have b2 : wr.cell? ⟨g, 2, none⟩ = some (.slice B is.length c') := (World.cell?_of_block (a := ⟨g, 2, none⟩) (hGr.out.block g (by omega) (by simp))).trans (cell_of_row _ _ 2 _ _ (0, 0) K0.out)
      clear hown of0 of1 o0 o1 o2
      have hL1l := Nat.le_trans (fN_len s ns) hl10
      generalize hL1 : fN s ns = L1 at *
      have HL1 := Lib.hid hL1
      clear hL1
      go_wp2_with fail
      clear b2
      go_loopw [44] (fun t W => ∃ (j : Nat) (v2 : Value), j ≤ is.length ∧ t = .int .i64 j ∧ Hid (W.ownsRow (g + 3) 3 1 (.slice A1 L1.length c1) L1.length (L1.map (Value.int .i64))) ∧ Hid (Inner (g + 3) d W v2 (fI s d (is.take j))) ∧ Hid (OutAt W (g + 2) (m0 - (cnt (fun T => deadT (lessT s d T)) (is.take j) : Nat)) (.slice A1 L1.length c1) v2) ∧ Hid (W1.grownBy W (some (g + 2)))) (fun t _ => is.length - (intOf t).toNat)
      case atStart => exact ⟨0, .slice none 0 0, by omega, rfl, HOWN, Lib.hid (Inner.nil _ _ _), Lib.hid (by simpa [cnt] using HO0.out), HG0⟩
      case round =>
        clear HOWN HO0 HG0 hO hGr hwr hol
        obtain ⟨j, v2, hj, rfl, hOW, hInn, hO, hGr⟩ := hrel
        have hwr := hGr.out.size
        obtain ⟨o0, o1, o2⟩ := hO.out.cs
        have of0 := hO.out.fr 0
        have of2 := hO.out.fr 2
        have hol := hO.out.lt
        by_cases hlt : j < is.length
        · obtain ⟨Bn, cn, hBn, hLc⟩ := HL.out
          injection hBn with hA1 hA2 hA3
          subst hA1
          subst hA3
          obtain ⟨T, hT⟩ : ∃ T, is[j]? = some T := ⟨_, List.getElem?_eq_getElem hlt⟩
          obtain ⟨b, off, x0, x1, x2, rfl, hP, e0, e1, e2, hTk⟩ := hLc j T hT
          obtain ⟨t', A', n', ca, B', m', cb, rfl, rfl, rfl⟩ := hTk.form
          have lw := hGr.out.block b (by omega) (by simp; omega)
          have d0 := (World.cell?_of_block (a := ⟨b, off + j * 3, none⟩) lw).trans e0
          have d1 := (World.cell?_of_block (a := ⟨b, off + j * 3 + 1, none⟩) lw).trans e1
          have d2 := (World.cell?_of_block (a := ⟨b, off + j * 3 + 2, none⟩) lw).trans e2
          have hTr : TAt (fun b => b < g) d wr (.int .i64 t') (.slice A' n' ca) (.slice B' m' cb) T := hTk.keep (fun q hq hP => hGr.out.block q hq (by simp; omega))
          have HTb := Lib.hid (hTr.below (balloc (bref wr) (.cells #[.int .i64 t', .slice A' n' ca, .slice B' m' cb] 28)))
          have HWT := Lib.hid (HWI.out T (List.mem_of_getElem? hT))
          have HC := Lib.hid (cnt_take1 (p := fun T => deadT (lessT s d T)) hT)
          have HF := Lib.hid (fI_take (s := s) (d := d) hT)
          have hfl := Nat.le_trans (fI_len s d (is.take j)) (by rw [List.length_take]; exact Nat.min_le_right _ _)
          have HOWB := Lib.hid (fun q (hq : v2.ownBlock = some q) => (hInn.out.own q hq).2)
          have HGr := hGr
          have HO := hO
          clear lw e0 e1 e2 hTr hTk hLc hT hGr hO of0 of2 o0 o1 o2
          go_wp2_with fail
          refine (HI.out _ n T _ _ _ _ HTb.out HWT.out).mono ?_
          rintro e W2 ⟨y0, y1, y2, R2, rfl, hT2, hR2, hb2⟩
          obtain ⟨t2, A2, n2, c2, B2, m2, c3, rfl, rfl, rfl⟩ := hT2.form
          have HR2 := Lib.hid hR2
          clear hR2
          have hbA := balloc (bstep (balloc (bref wr) (.cells #[.int .i64 t', .slice A' n' ca, .slice B' m' cb] 28)) hb2) (.cells #[.int .i64 t2, .slice A2 n2 c2, .slice B2 m2 c3] 28)
          have k3 : (W2.alloc (.cells #[.int .i64 t2, .slice A2 n2 c2, .slice B2 m2 c3] 28)).heap[W2.heap.size]? = some (.cells #[.int .i64 t2, .slice A2 n2 c2, .slice B2 m2 c3] 28 (0, 0)) := alloc_at rfl
          have HT3 := Lib.hid (TAt.both (Q := fun b => wr.heap.size ≤ b) (fun _ _ _ => rfl) (fun q _ hq => by simp at hq; omega) _ _ _ _ _ (hT2.below (balloc (bref W2) (.cells #[.int .i64 t2, .slice A2 n2 c2, .slice B2 m2 c3] 28))))
          have HK3 := Lib.hid k3
          have HO3 := Lib.hid (HO.out.keep (hbA.block _ hol))
          have HOW3 := Lib.hid (own_bel hOW.out hbA)
          have HI3 := Lib.hid (hInn.out.below hbA)
          have HG3 := Lib.hid (grown_trans HGr.out (grown_below hbA))
          have HS3 := Lib.hid hbA.size
          clear hT2 hb2 hbA k3 d0 d1 d2
          go_upto_region 15 with fail
          generalize W2.alloc (.cells #[.int .i64 t2, .slice A2 n2 c2, .slice B2 m2 c3] 28) = W3 at *
          generalize W2.heap.size = r3 at *
          have r0 : W3.cell? ⟨r3, 0, none⟩ = some (.int .i64 t2) := cell_of_row _ _ 0 _ _ (0, 0) HK3.out
          have r1 : W3.cell? ⟨r3, 1, none⟩ = some (.slice A2 n2 c2) := cell_of_row _ _ 1 _ _ (0, 0) HK3.out
          have r2 : W3.cell? ⟨r3, 2, none⟩ = some (.slice B2 m2 c3) := cell_of_row _ _ 2 _ _ (0, 0) HK3.out
          obtain ⟨o0, o1, o2⟩ := HO3.out.cs
          have of0 := HO3.out.fr 0
          have of2 := HO3.out.fr 2
          have hol3 := HO3.out.lt
          cases hdd : deadT (lessT s d T)
          · rw [hdd] at HC HF
            rw [if_neg (by simp)] at HC HF
            have hR2 := HR2.out hdd
            subst hR2
            obtain ⟨cs, hcs, hcl⟩ := HI3.out
            have hcn := hcs.1
            have HOWI := Lib.hid (fun q (hq : v2.ownBlock = some q) => (hcs.lt q hq).1)
            have HCS3 := Lib.hid hcs
            have HCSA := Lib.hid (hcs.alloc (.cells #[.int .i64 t2, .slice A2 n2 c2, .slice B2 m2 c3] 28))
            have HNEW := Lib.hid (cell_three_new W3 (.int .i64 t2) (.slice A2 n2 c2) (.slice B2 m2 c3) 28)
            have HBA4 := Lib.hid (balloc (bref W3) (.cells #[.int .i64 t2, .slice A2 n2 c2, .slice B2 m2 c3] 28))
            have HSZ4 := Lib.hid (alloc_sz W3 (.cells #[.int .i64 t2, .slice A2 n2 c2, .slice B2 m2 c3] 28))
            have HCL := Lib.hid hcl
            clear hcs hcl hdd
            rw [Bool.not_false]
            go_wp2_with (at_builtin; refine wpList_append_lies _ rfl _ _ 26 rfl (g + 3) 28 i3 (.agg #[.int .i64 0, .slice none 0 0, .slice none 0 0]) 3 56 Tryd.underlying26 hi3 hy0 hy1 hy2 rfl (by decide) _ (fI s d (is.take j)).length cs rfl (by exact HCSA.out) ⟨_, 0, none⟩ 1 1 [.int .i64 t2, .slice A2 n2 c2, .slice B2 m2 c3] rfl rfl (by exact HNEW.out) (by intro u hu; simp at hu; rcases hu with rfl | rfl | rfl <;> rfl) (by omega) (by unfold maxLen; omega) (by omega) (by have := HSZ4.out; omega) _ rfl ?_; intro g4 cap4 W5 hown4 hgrow4 hat4 hlt4; have hO5 := HO3.out.keep ((hgrow4.block (g + 2) (by have := HSZ4.out; omega) (fun e => by have := HOWI.out _ e.symm; omega)).trans (HBA4.out.block (g + 2) hol3)); obtain ⟨s0, s1, s2⟩ := hO5.cs; have sf2 := hO5.fr 2)
            have hgB : (W3.alloc (.cells #[.int .i64 t2, .slice A2 n2 c2, .slice B2 m2 c3] 28)).grownBy W5 v2.ownBlock := ⟨hgrow4.os, hgrow4.tape, hgrow4.output, hgrow4.size, hgrow4.block⟩
            have hI5 := Inner.append (W := W3.alloc (.cells #[.int .i64 t2, .slice A2 n2 c2, .slice B2 m2 c3] 28)) (fun k T hT => by
                obtain ⟨z0, z1, z2, e0, e1, e2, e3⟩ := HCL.out k T hT
                exact ⟨z0, z1, z2, e0, e1, e2, e3.below HBA4.out⟩) hcn
              ((HT3.out.below HBA4.out).imp (fun q _ hq => ⟨by omega, fun e => by have := (HCS3.out.lt q e).2; have := HOWB.out q e; omega⟩)) hown4 hgB hat4
            have HI5 := Lib.hid (hI5.setLow (p := ⟨g + 2, 2, none⟩) (by simp) (.slice (some ⟨g4, 0, none⟩) ((fI s d (is.take j)).length + 1) cap4))
            have HO5 := Lib.hid (hO5.set2 (.slice (some ⟨g4, 0, none⟩) ((fI s d (is.take j)).length + 1) cap4))
            have HG5 := Lib.hid (grown_at (gown (grown_trans HG3.out (grown_below HBA4.out)) hgB (fun q hq => by have := HOWI.out q hq; omega)) 2 (.slice (some ⟨g4, 0, none⟩) ((fI s d (is.take j)).length + 1) cap4))
            have hOWA := own_bel HOW3.out HBA4.out
            have HOW5 := Lib.hid ((hOWA.kept hgB (own_apart hOWA HCSA.out)).kept (gset1 W5 ⟨g + 2, 2, none⟩ (.slice (some ⟨g4, 0, none⟩) ((fI s d (is.take j)).length + 1) cap4)) (own_below (hOWA.kept hgB (own_apart hOWA HCSA.out)) (by simp)))
            clear hown4 hgrow4 hat4 hlt4 hgB hI5 hO5 hOWA s0 s1 s2 sf2
            have HCE := Lib.hid (show cnt (fun T => deadT (lessT s d T)) (is.take (j + 1)) = cnt (fun T => deadT (lessT s d T)) (is.take j) by have := HC.out; omega)
            go_roundw
            case rel => exact ⟨j + 1, _, by omega, by go_num, HOW5, by rw [HF.out]; exact HI5, by rw [HCE.out]; exact HO5, HG5⟩
            case measure => simp [intOf]; omega
          · rw [hdd] at HC HF
            rw [if_pos rfl] at HC HF
            have HSUB := Lib.hid (show m0 - (cnt (fun T => deadT (lessT s d T)) (is.take (j + 1)) : Nat) = m0 - (cnt (fun T => deadT (lessT s d T)) (is.take j) : Nat) - 1 by have := HC.out; omega)
            have hcl := Nat.le_trans (cnt_le (fun T => deadT (lessT s d T)) (is.take j)) (by rw [List.length_take]; exact Nat.min_le_right _ _)
            have hq0 : -20 ≤ m0 - (cnt (fun T => deadT (lessT s d T)) (is.take j) : Nat) := by omega
            have hq1 : m0 - (cnt (fun T => deadT (lessT s d T)) (is.take j) : Nat) ≤ 20 := by omega
            generalize m0 - (cnt (fun T => deadT (lessT s d T)) (is.take j) : Nat) = q0 at *
            clear hdd hcl
            rw [Bool.not_true]
            have HO4 := Lib.hid (HO3.out.set0 (q0 - 1))
            have HG4 := Lib.hid (grown_at HG3.out 0 (.int .i64 (q0 - 1)))
            have HOW4 := Lib.hid (HOW3.out.kept (gset1 W3 ⟨g + 2, 0, none⟩ (.int .i64 (q0 - 1))) (own_below HOW3.out (by simp)))
            have HI4 := Lib.hid (HI3.out.setLow (p := ⟨g + 2, 0, none⟩) (by simp) (.int .i64 (q0 - 1)))
            go_wp2_with fail
            go_roundw
            case rel => exact ⟨j + 1, v2, by omega, by go_num, HOW4, by rw [HF.out, List.append_nil]; exact HI4, by rw [HSUB.out]; exact HO4, HG4⟩
            case measure => simp [intOf]; omega
        · obtain rfl : j = is.length := by omega
          obtain ⟨A2, c2, rfl⟩ := hInn.out.slice
          have HTI := Lib.hid (show fI s d (is.take is.length) = fI s d is by rw [List.take_length])
          have hR : OutAt wr (g + 1) 0 (.slice none 0 0) (.slice none 0 0) := K1.out.keep (hGr.out.block (g + 1) (by omega) (by simp))
          obtain ⟨r0, r1, r2⟩ := hR.cs
          have rf0 := hR.fr 0
          have rf1 := hR.fr 1
          have rf2 := hR.fr 2
          have HZB := Lib.hid (show Below w.heap.size w wr by
            have h1 := HB.out
            rw [← HG.out] at h1
            exact h1.grown hGr.out h1.size (fun q hq => by obtain rfl := Option.some.inj hq; have := HG.out; omega))
          have hfl := Nat.le_trans (fI_len s d (is.take is.length)) (by rw [List.length_take]; exact Nat.min_le_right _ _)
          have HLE := Lib.hid (show (!deadT (lessT s (d + 1) (.mk (t0 : Int) ns is))) = decide (0 < m0 - (cnt (fun T => deadT (lessT s d T)) (is.take is.length) : Nat)) ∧ WithR s (d + 1) (.mk (t0 : Int) ns is) (.mk (m0 - (cnt (fun T => deadT (lessT s d T)) (is.take is.length) : Nat)) L1 (fI s d (is.take is.length))) by
            rw [← HM0.out, ← HL1.out, List.take_length]
            have e1 : cnt deadT (is.map (lessT s d)) = cnt (fun T => deadT (lessT s d T)) is := by
              unfold cnt; rw [List.filter_map, List.length_map]; rfl
            have e2 : lessT s (d + 1) (.mk (t0 : Int) ns is) = .mk ((t0 - cnt (hasB (s : Int)) ns - cnt (fun T => deadT (lessT s d T)) is : Nat) : Int) (fN s ns) (fI s d is) := by
              show Tree.mk _ _ _ = _
              rw [e1]
              rfl
            unfold WithR
            rw [e2]
            have e3 : deadT (.mk ((t0 - cnt (hasB (s : Int)) ns - cnt (fun T => deadT (lessT s d T)) is : Nat) : Int) (fN s ns) (fI s d is)) = !decide (0 < (t0 : Int) - (cnt (hasB (s : Int)) ns : Nat) - (cnt (fun T => deadT (lessT s d T)) is : Nat)) := by
              unfold deadT
              rw [← decide_not]
              refine decide_eq_decide.2 ?_
              have key : ∀ (t a b : Nat), ((t - a - b : Nat) : Int) ≤ 0 ↔ ¬ (0 < (t : Int) - (a : Nat) - (b : Nat)) := by intros; omega
              exact key _ _ _
            rw [e3]
            refine ⟨by simp, fun h => ?_⟩
            have h1 : (0 : Int) < (t0 : Int) - (cnt (hasB (s : Int)) ns : Nat) - (cnt (fun T => deadT (lessT s d T)) is : Nat) := by simpa using h
            have h2 : ((t0 : Int) - (cnt (hasB (s : Int)) ns : Nat) - (cnt (fun T => deadT (lessT s d T)) is : Nat)) = ((t0 - cnt (hasB (s : Int)) ns - cnt (fun T => deadT (lessT s d T)) is : Nat) : Int) := by omega
            rw [h2])
          generalize m0 - (cnt (fun T => deadT (lessT s d T)) (is.take is.length) : Nat) = tz at *
          clear HTI
          generalize fI s d (is.take is.length) = L2 at *
          have HOW := hOW
          have HInn := hInn
          clear hOW hInn hR
          obtain ⟨s0, s1, s2⟩ := hO.out.cs
          go_wp2_with fail
          go_region
          go_wp2_with fail
          have K1' := ((HOW.out.kept (gset1 wr ⟨g + 1, 0, none⟩ (.int .i64 (tz : Int))) (own_below HOW.out (by simp))).kept (gset1 _ ⟨g + 1, 1, none⟩ (.slice A1 L1.length c1)) (own_below HOW.out (by simp))).kept (gset1 _ ⟨g + 1, 2, none⟩ (.slice A2 L2.length c2)) (own_below HOW.out (by simp))
          have K2' := ((HInn.out.setLow (p := ⟨g + 1, 0, none⟩) (by simp) (.int .i64 (tz : Int))).setLow (p := ⟨g + 1, 1, none⟩) (by simp) (.slice A1 L1.length c1)).setLow (p := ⟨g + 1, 2, none⟩) (by simp) (.slice A2 L2.length c2)
          have hgl := HG.out
          refine bodyPost_ret (v := .tuple #[.agg #[.int .i64 (tz : Int), .slice A1 L1.length c1, .slice A2 L2.length c2], .bool (decide (0 < tz))]) ?_ rfl ⟨_, _, _, _, by rw [HLE.out.1], ?_, HLE.out.2, ?_⟩
          · simp [results, Tryd.results28, go_sem, r0, r1, r2]
          · exact made (fun b hb => by omega) (by omega) (by omega) K1' K2'.drew
          · exact bdrew (bset (bset (bset HZB.out (p := ⟨g + 1, 0, none⟩) (by show w.heap.size ≤ g + 1; omega) _) (p := ⟨g + 1, 1, none⟩) (by show w.heap.size ≤ g + 1; omega) _) (p := ⟨g + 1, 2, none⟩) (by show w.heap.size ≤ g + 1; omega) _)

theorem with_run (s : Nat) (hs : s < 1024) : ∀ d, WithC s d
  | 0 => fun P n T x0 x1 x2 w h _ => h.elim
  | d + 1 => with_step s d hs (with_run s hs d)
end Go.Proofs.YtcngpfffhjbiaaaDoor

namespace Go.Proofs.YtcngpfffhjbiaaaDoor
set_option linter.unusedVariables false
set_option linter.unusedSimpArgs false
open Go.RowKit

/-- Members in a row of its own from B on, with trusts in blocks of Q. -/
def GRow (Q : Nat → Prop) (B d : Nat) (W : World) (v : Value) (ms : List Mem) : Prop :=
  ∃ cs : List Value, W.ownsRow B 49 4 v ms.length cs ∧ ∀ k m, ms[k]? = some m → ∃ x0 x1 x2, cs[k * 4]? = some (.bool m.1) ∧ cs[k * 4 + 1]? = some x0 ∧ cs[k * 4 + 2]? = some x1 ∧ cs[k * 4 + 3]? = some x2 ∧ TAt (fun b => Q b ∧ v.ownBlock ≠ some b) d W x0 x1 x2 m.2

theorem GRow.nil (Q : Nat → Prop) (B d : Nat) (W : World) : GRow Q B d W (.slice none 0 0) [] := ⟨[], World.ownsRow_nil _ _ _ _, fun k T h => by simp at h⟩

theorem GRow.own {Q : Nat → Prop} {B d : Nat} {W : World} {v : Value} {ms : List Mem} (h : GRow Q B d W v ms) : ∀ j, v.ownBlock = some j → B ≤ j ∧ j < W.heap.size := by
  obtain ⟨cs, h1, _⟩ := h
  exact h1.lt

theorem GRow.keep {Q : Nat → Prop} {B d : Nat} {W W' : World} {v : Value} {ms : List Mem} (h : GRow Q B d W v ms) (hk : ∀ q, (Q q ∨ B ≤ q) → q < W.heap.size → W'.heap[q]? = W.heap[q]?) : GRow Q B d W' v ms := by
  obtain ⟨cs, h1, h2⟩ := h
  refine ⟨cs, own_keepG h1 (fun j _ hB hl => hk j (.inr hB) hl), fun k m hm => ?_⟩
  obtain ⟨x0, x1, x2, e0, e1, e2, e3, e4⟩ := h2 k m hm
  exact ⟨x0, x1, x2, e0, e1, e2, e3, e4.keep (fun q hq hP => hk q (.inl hP.1) hq)⟩

/-- One more member. -/
theorem GRow.append {Q : Nat → Prop} {B d : Nat} {WA W4 : World} {lv x0 x1 x2 : Value} {ms : List Mem} {m : Mem} {g4 cap4 : Nat} {cs : List Value}
    (hcl : ∀ k m, ms[k]? = some m → ∃ x0 x1 x2, cs[k * 4]? = some (.bool m.1) ∧ cs[k * 4 + 1]? = some x0 ∧ cs[k * 4 + 2]? = some x1 ∧ cs[k * 4 + 3]? = some x2 ∧ TAt (fun b => Q b ∧ lv.ownBlock ≠ some b) d WA x0 x1 x2 m.2) (hcn : cs.length = ms.length * 4)
    (hT : TAt (fun b => Q b ∧ lv.ownBlock ≠ some b) d WA x0 x1 x2 m.2)
    (hown4 : W4.ownsRow B 49 4 (.slice (some ⟨g4, 0, none⟩) (ms.length + 1) cap4) (ms.length + 1) (cs ++ [.bool m.1, x0, x1, x2])) (hg4 : WA.grownBy W4 lv.ownBlock) (hat4 : lv.ownBlock = some g4 ∨ g4 = WA.heap.size) :
    GRow Q B d W4 (.slice (some ⟨g4, 0, none⟩) (ms.length + 1) cap4) (ms ++ [m]) := by
  have up : ∀ {y0 y1 y2 : Value} {S : Tree}, TAt (fun b => Q b ∧ lv.ownBlock ≠ some b) d WA y0 y1 y2 S → TAt (fun b => Q b ∧ (Value.slice (some ⟨g4, 0, none⟩) (ms.length + 1) cap4).ownBlock ≠ some b) d W4 y0 y1 y2 S := fun h =>
    TAt.both (fun q hq hP => hg4.block q hq (fun e => hP.2 e.symm)) (fun q hq hP => ⟨hP.1, fun e => by
      have e' : g4 = q := by simpa [Value.ownBlock] using e
      rcases hat4 with hat | hat
      · exact hP.2 (by rw [hat, e'])
      · omega⟩) _ _ _ _ _ h
  refine ⟨cs ++ [.bool m.1, x0, x1, x2], by simpa using hown4, fun k S hS => ?_⟩
  rcases Nat.lt_or_ge k ms.length with hk | hk
  · rw [List.getElem?_append_left hk] at hS
    obtain ⟨y0, y1, y2, e0, e1, e2, e3, e4⟩ := hcl k S hS
    exact ⟨y0, y1, y2, by rw [List.getElem?_append_left (by omega)]; exact e0, by rw [List.getElem?_append_left (by omega)]; exact e1, by rw [List.getElem?_append_left (by omega)]; exact e2, by rw [List.getElem?_append_left (by omega)]; exact e3, up e4⟩
  · have hk2 : k = ms.length := by
      have := (List.getElem?_eq_some_iff.1 hS).1
      simp at this; omega
    subst hk2
    have hS' : S = m := by simpa using hS.symm
    subst hS'
    refine ⟨x0, x1, x2, ?_, ?_, ?_, ?_, up hT⟩
    · rw [List.getElem?_append_right (by omega)]; simp [hcn]
    · rw [List.getElem?_append_right (by omega), show ms.length * 4 + 1 - cs.length = 1 by omega]; rfl
    · rw [List.getElem?_append_right (by omega), show ms.length * 4 + 2 - cs.length = 2 by omega]; rfl
    · rw [List.getElem?_append_right (by omega), show ms.length * 4 + 3 - cs.length = 3 by omega]; rfl

theorem GRow.mems {Q : Nat → Prop} {B d : Nat} {W : World} {v : Value} {ms : List Mem} {P : Nat → Prop} (h : GRow Q B d W v ms) (hP : ∀ b, (Q b ∨ B ≤ b) → P b) : MemsAt P d W v ms := by
  obtain ⟨cs, h1, h2⟩ := h
  rcases h1.2 with ⟨hv, h0⟩ | ⟨g, cap, cur, hv, hb, _⟩
  · exact ⟨none, 0, by rw [hv, h0], fun k T hT => by have := (List.getElem?_eq_some_iff.1 hT).1; omega⟩
  · refine ⟨some ⟨g, 0, none⟩, cap, hv, fun k m hm => ?_⟩
    obtain ⟨x0, x1, x2, e0, e1, e2, e3, e4⟩ := h2 k m hm
    have c : ∀ j u, cs[j]? = some u → W.cell? ⟨g, 0 + j, none⟩ = some u := fun j u hu => by
      have := h1.cells (g := g) (by rw [hv]; rfl) j u hu
      rwa [Addr.add_lit] at this
    exact ⟨g, 0, x0, x1, x2, rfl, hP g (.inr hb), c _ _ e0, by rw [Nat.add_assoc]; exact c _ _ e1, by rw [Nat.add_assoc]; exact c _ _ e2, by rw [Nat.add_assoc]; exact c _ _ e3, e4.imp (fun q _ hq => hP q (.inl hq.1))⟩

theorem delM_take {s k : Nat} {ms : List Mem} {m : Mem} (h : ms[k]? = some m) : (delM s ms).take (k + 1) = (delM s ms).take k ++ [delOne s k m] := take_one (delM_get h)

theorem TAt.empty (P : Nat → Prop) (d : Nat) (w : World) (A B : Option Addr) (c c' : Nat) : TAt P (d + 1) w (.int .i64 0) (.slice A 0 c) (.slice B 0 c') (.mk 0 [] []) := ⟨rfl, by simp, by simp, ⟨A, c, rfl, fun k hk => by simp at hk⟩, ⟨B, c', rfl, fun k T hT => by simp at hT⟩⟩

end Go.Proofs.YtcngpfffhjbiaaaDoor

namespace Go.Proofs.YtcngpfffhjbiaaaDoor
set_option linter.unusedVariables false
set_option linter.unusedSimpArgs false
open Go.RowKit

set_option maxRecDepth 100000 in
set_option maxHeartbeats 2000000 in
theorem delT_run (P : Nat → Prop) (n : Int) (s k d : Nat) (T : Tree) (x0 x1 x2 : Value) (w : World) (hs : s < 1024) (h : TAt P (d + 1) w x0 x1 x2 T) (hWF : WF n (d + 1) T) :
    Calls Tryd.prog 12 #[.agg #[x0, x1, x2], .int .i64 (k : Int), .int .i64 (s : Int)] w fun e w' => ∃ y0 y1 y2, e = .returned (.agg #[y0, y1, y2]) ∧ TAt (fun b => w.heap.size ≤ b) (d + 1) w' y0 y1 y2 (delT s k (d + 1) T) ∧ Below w.heap.size w w' := by
  obtain ⟨t', A', n', ca, B', m', cb, rfl, rfl, rfl⟩ := h.form
  have hsv := Lib.hid (show setB (s : Int) = true from setB_iff.2 ⟨by omega, by omega⟩)
  have hb2 : Below w.heap.size w ((w.alloc (.cells #[.int .i64 t', .slice A' n' ca, .slice B' m' cb] 28)).alloc (.cells #[.int .i64 0, .slice none 0 0, .slice none 0 0] 28)) := balloc (balloc (bref w) _) _
  have k0 : ((w.alloc (.cells #[.int .i64 t', .slice A' n' ca, .slice B' m' cb] 28)).alloc (.cells #[.int .i64 0, .slice none 0 0, .slice none 0 0] 28)).heap[w.heap.size]? = some (.cells #[.int .i64 t', .slice A' n' ca, .slice B' m' cb] 28 (0, 0)) := alloc_on (alloc_at rfl)
  have k1 : OutAt ((w.alloc (.cells #[.int .i64 t', .slice A' n' ca, .slice B' m' cb] 28)).alloc (.cells #[.int .i64 0, .slice none 0 0, .slice none 0 0] 28)) (w.heap.size + 1) 0 (.slice none 0 0) (.slice none 0 0) := alloc_at (alloc_sz _ _)
  have HT := Lib.hid (h.below hb2)
  have HB := Lib.hid hb2
  have K0 := Lib.hid k0
  have K1 := Lib.hid k1
  have HW := Lib.hid hWF
  clear h hb2 k0 k1 hWF
  go_enter Tryd.func12, Tryd.ntmps12
  go_upto_region 1 with fail
  generalize ((w.alloc (.cells #[.int .i64 t', .slice A' n' ca, .slice B' m' cb] 28)).alloc (.cells #[.int .i64 0, .slice none 0 0, .slice none 0 0] 28)) = W1 at *
  generalize hg : w.heap.size = g at *
  have HG := Lib.hid hg
  clear hg
  have c0 : W1.cell? ⟨g, 0, none⟩ = some (.int .i64 t') := cell_of_row _ _ 0 _ _ (0, 0) K0.out
  have c1 : W1.cell? ⟨g, 1, none⟩ = some (.slice A' n' ca) := cell_of_row _ _ 1 _ _ (0, 0) K0.out
  have c2 : W1.cell? ⟨g, 2, none⟩ = some (.slice B' m' cb) := cell_of_row _ _ 2 _ _ (0, 0) K0.out
  have hol := K1.out.lt
  go_wp2_with fail
  refine (setValid_run _ _).mono ?_
  rintro e w2 ⟨rfl, rfl⟩
  rw [hsv.out]
  go_wp2_with fail
  refine (with_run s hs (d + 1) _ n T _ _ _ _ HT.out HW.out).mono ?_
  rintro e W2 ⟨y0, y1, y2, R2, rfl, hT2, hR2, hb2⟩
  obtain ⟨t2, A2, n2, c2', B2, m2, c3, rfl, rfl, rfl⟩ := hT2.form
  have HR2 := Lib.hid hR2
  have hbA := balloc hb2 (.cells #[.int .i64 t2, .slice A2 n2 c2', .slice B2 m2 c3] 28)
  have k3 : (W2.alloc (.cells #[.int .i64 t2, .slice A2 n2 c2', .slice B2 m2 c3] 28)).heap[W2.heap.size]? = some (.cells #[.int .i64 t2, .slice A2 n2 c2', .slice B2 m2 c3] 28 (0, 0)) := alloc_at rfl
  have HT3 := Lib.hid (hT2.below (balloc (bref W2) (.cells #[.int .i64 t2, .slice A2 n2 c2', .slice B2 m2 c3] 28)))
  have HK3 := Lib.hid k3
  have HO3 := Lib.hid (K1.out.keep (hbA.block _ hol))
  have HB3 := Lib.hid (show Below w.heap.size w (W2.alloc (.cells #[.int .i64 t2, .slice A2 n2 c2', .slice B2 m2 c3] 28)) by
    have h1 := HB.out
    rw [← HG.out] at h1
    exact bstep h1 hbA)
  have HS3 := Lib.hid hbA.size
  clear hT2 hb2 hbA k3 c0 c1 c2 hR2
  go_upto_region 4 with fail
  generalize W2.alloc (.cells #[.int .i64 t2, .slice A2 n2 c2', .slice B2 m2 c3] 28) = W3 at *
  generalize W2.heap.size = r3 at *
  have r0 : W3.cell? ⟨r3, 0, none⟩ = some (.int .i64 t2) := cell_of_row _ _ 0 _ _ (0, 0) HK3.out
  have r1 : W3.cell? ⟨r3, 1, none⟩ = some (.slice A2 n2 c2') := cell_of_row _ _ 1 _ _ (0, 0) HK3.out
  have r2 : W3.cell? ⟨r3, 2, none⟩ = some (.slice B2 m2 c3) := cell_of_row _ _ 2 _ _ (0, 0) HK3.out
  obtain ⟨o0, o1, o2⟩ := HO3.out.cs
  have of0 := HO3.out.fr 0
  have of1 := HO3.out.fr 1
  have of2 := HO3.out.fr 2
  have hol3 := HO3.out.lt
  have hgl := HG.out
  have HBG := Lib.hid (fun (W : World) (h : Below w.heap.size w W) => (by rw [← HG.out]; exact h : Below g w W))
  cases hdd : deadT (lessT s (d + 1) T)
  · obtain rfl := HR2.out hdd
    have HE := Lib.hid (show delT s k (d + 1) T = lessT s (d + 1) T by unfold delT; rw [hdd]; rfl)
    clear hdd
    try rw [Bool.not_false]
    try rw [Bool.not_true]
    go_wp2_with fail
    refine bodyPost_ret (v := .agg #[.int .i64 t2, .slice A2 n2 c2', .slice B2 m2 c3]) ?_ rfl ⟨_, _, _, rfl, ?_, ?_⟩
    · simp [results, Tryd.results12, go_sem, o0, o1, o2]
    · rw [HE.out]
      exact TAt.both (fun q hq hP => (Below.heap_setCell _ _ _ _ (by simp; omega)).trans ((Below.heap_setCell _ _ _ _ (by simp; omega)).trans (Below.heap_setCell _ _ _ _ (by simp; omega)))) (fun q _ hP => by omega) _ _ _ _ _ HT3.out
    · exact (bset (bset (bset HB3.out (p := ⟨g + 1, 0, none⟩) (by show w.heap.size ≤ g + 1; omega) _) (p := ⟨g + 1, 1, none⟩) (by show w.heap.size ≤ g + 1; omega) _) (p := ⟨g + 1, 2, none⟩) (by show w.heap.size ≤ g + 1; omega) _)
  · have HE := Lib.hid (show delT s k (d + 1) T = .mk 1 [(k : Int)] [] by unfold delT; rw [hdd]; rfl)
    clear hdd
    try rw [Bool.not_false]
    try rw [Bool.not_true]
    go_wp2_with fail
    refine bodyPost_ret (v := .agg #[.int .i64 1, .slice (some ⟨W3.heap.size, 0, none⟩) 1 1, .slice none 0 0]) ?_ rfl ⟨_, _, _, rfl, ?_, ?_⟩
    · simp [results, Tryd.results12, go_sem, o0, o1, o2, hol3]
    · rw [HE.out]
      refine ⟨rfl, by simp, by simp, ⟨some ⟨W3.heap.size, 0, none⟩, 1, rfl, fun j hj => ⟨W3.heap.size, 0, rfl, by omega, ?_⟩⟩, ⟨none, 0, rfl, fun k T hT => by simp at hT⟩⟩
      obtain rfl : j = 0 := by simpa using hj
      refine (cell_of_row _ _ 0 #[.int .i64 (k : Int)] 3 (0, 0) ?_)
      have := heap_alloc_new (((W3.setCell ⟨g + 1, 0, none⟩ (.int .i64 1)).setCell ⟨g + 1, 1, none⟩ (.slice (some ⟨W3.heap.size, 0, none⟩) 1 1)).setCell ⟨g + 1, 2, none⟩ (.slice none 0 0)) (.cells #[.int .i64 (k : Int)] 3)
      simpa using this
    · exact (balloc (bset (bset (bset HB3.out (p := ⟨g + 1, 0, none⟩) (by show w.heap.size ≤ g + 1; omega) _) (p := ⟨g + 1, 1, none⟩) (by show w.heap.size ≤ g + 1; omega) _) (p := ⟨g + 1, 2, none⟩) (by show w.heap.size ≤ g + 1; omega) _) _)

end Go.Proofs.YtcngpfffhjbiaaaDoor

namespace Go.Proofs.YtcngpfffhjbiaaaDoor
set_option linter.unusedVariables false
set_option linter.unusedSimpArgs false
open Go.RowKit Go.PlainAid

/-- Block r is a reader of the text B that stands at a. -/
def RdAt (w : World) (r : Nat) (B : ByteArray) (a : Nat) : Prop := w.heap[r]? = some (.cells #[.string B, .int .i64 (a : Int)] 70 (0, 0))
theorem RdAt.lt {w : World} {r : Nat} {B : ByteArray} {a : Nat} (h : RdAt w r B a) : r < w.heap.size := by
  rcases Nat.lt_or_ge r w.heap.size with h1 | h1
  · exact h1
  · unfold RdAt at h; rw [Array.getElem?_eq_none h1] at h; cases h
theorem RdAt.cs {w : World} {r : Nat} {B : ByteArray} {a : Nat} (h : RdAt w r B a) : w.cell? ⟨r, 0, none⟩ = some (.string B) ∧ w.cell? ⟨r, 1, none⟩ = some (.int .i64 (a : Int)) :=
  ⟨cell_of_row _ _ 0 _ _ (0, 0) h, cell_of_row _ _ 1 _ _ (0, 0) h⟩
theorem RdAt.fr {w : World} {r : Nat} {B : ByteArray} {a : Nat} (h : RdAt w r B a) (k : Nat) : w.frozen? ⟨r, k, none⟩ = false := by
  unfold RdAt at h
  simp [World.frozen?, h]
theorem RdAt.keep {w w' : World} {r : Nat} {B : ByteArray} {a : Nat} (h : RdAt w r B a) (hk : w'.heap[r]? = w.heap[r]?) : RdAt w' r B a := hk.trans h
theorem RdAt.set {w : World} {r : Nat} {B : ByteArray} {a : Nat} (h : RdAt w r B a) (c : Nat) : RdAt (w.setCell ⟨r, 1, none⟩ (.int .i64 (c : Int))) r B c := by
  unfold RdAt at h ⊢
  simp [World.setCell, Array.getElem?_modify, h]
theorem RdAt.drewN {w : World} {r : Nat} {B : ByteArray} {a : Nat} (h : RdAt w r B a) (n : Nat) : RdAt (w.drewN n) r B a := h

/-- Is the byte at a the byte c? -/
def isB (B : ByteArray) (a : Nat) (c : Int) : Bool := decide (a < B.size) && (bt B a == c)
theorem isB_iff {B : ByteArray} {a : Nat} {c : Int} : isB B a c = true ↔ a < B.size ∧ bt B a = c := by unfold isB; simp
def skipN (B : ByteArray) : Nat → Nat → Nat
  | 0, a => a
  | n + 1, a => if isB B a 32 then skipN B n (a + 1) else a
/-- The first place from a on that is no blank. -/
def skipF (B : ByteArray) (a : Nat) : Nat := skipN B (B.size - a) a
theorem skipF_yes {B : ByteArray} {a : Nat} (h : isB B a 32 = true) : skipF B a = skipF B (a + 1) := by
  have := (isB_iff.1 h).1
  unfold skipF
  rw [show B.size - a = (B.size - (a + 1)) + 1 by omega, skipN, if_pos h]
theorem skipF_no {B : ByteArray} {a : Nat} (h : isB B a 32 = false) : skipF B a = a := by
  unfold skipF
  cases hn : B.size - a with
  | zero => rfl
  | succ n => rw [skipN, h]; rfl
theorem skipN_le (B : ByteArray) : ∀ (n a : Nat), a ≤ B.size → a ≤ skipN B n a ∧ skipN B n a ≤ B.size
  | 0, a, h => ⟨Nat.le_refl _, h⟩
  | n + 1, a, h => by
    rw [skipN]
    cases hb : isB B a 32
    · exact ⟨Nat.le_refl _, h⟩
    · have h1 := (isB_iff.1 hb).1
      have := skipN_le B n (a + 1) h1
      simp only [if_true]
      omega
theorem skipF_le {B : ByteArray} {a : Nat} (h : a ≤ B.size) : a ≤ skipF B a ∧ skipF B a ≤ B.size := skipN_le B _ a h

/-- Where the reader stands, as a measure. -/
def standsAt (w : World) (r : Nat) : Nat := match w.cell? ⟨r, 1, none⟩ with | some (.int _ z) => z.toNat | _ => 0
theorem RdAt.stands {w : World} {r : Nat} {B : ByteArray} {a : Nat} (h : RdAt w r B a) : standsAt w r = a := by
  unfold standsAt
  rw [h.cs.2]; rfl

set_option maxRecDepth 100000 in
set_option maxHeartbeats 2000000 in
theorem rskip_run (B : ByteArray) (r a : Nat) (w : World) (hB : B.size ≤ 1000000) (ha : a ≤ B.size) (h : RdAt w r B a) :
    Calls Tryd.prog 47 #[.pointer (some ⟨r, 0, none⟩)] w fun e w' => e = .returned (.tuple #[]) ∧ RdAt w' r B (skipF B a) ∧ w.grownBy w' (some r) := by
  have H := Lib.hid h
  clear h
  have hget := get_bt B
  go_enter Tryd.func47, Tryd.ntmps47
  go_wp2_with fail
  go_loopw [] (fun W => ∃ k : Nat, k ≤ B.size ∧ Hid (skipF B k = skipF B a) ∧ Hid (RdAt W r B k) ∧ Hid (w.grownBy W (some r))) (fun W => B.size - standsAt W r)
  case atStart => exact ⟨a, ha, Lib.hid rfl, H, Lib.hid (World.grownBy.refl _ _)⟩
  case round =>
    obtain ⟨k, hk, hS, hR, hG⟩ := hrel
    obtain ⟨c0, c1⟩ := hR.out.cs
    have hf := hR.out.fr 1
    by_cases hlt : k < B.size
    · by_cases hb : bt B k = 32
      · have HE := Lib.hid ((skipF_yes (isB_iff.2 ⟨hlt, hb⟩)).symm.trans hS.out)
        go_wp2_with fail
        go_quiet (fail)
        go_wp2_with fail
        have HR := (hR.out.drewN nq).set (k + 1)
        refine ⟨⟨k + 1, hlt, HE, Lib.hid HR, Lib.hid (grown_trans hG.out (grown_trans (grown_below (bdrewN (bref _) nq)) (gset1 (wr.drewN nq) ⟨r, 1, none⟩ _)))⟩, ?_⟩
        rw [show ((k : Int) + 1) = ((k + 1 : Nat) : Int) from rfl, HR.stands, hR.out.stands]
        omega
      · have HE := Lib.hid ((skipF_no (show isB B k 32 = false by unfold isB; simp [hb])).symm.trans hS.out)
        have hb2 : (bt B k == 32) = false := by simp [hb]
        go_wp2_with fail
        go_quiet (fail)
        go_wp2_with fail
        go_end0
        exact ⟨rfl, by rw [← HE.out]; exact hR.out.drewN nq, grown_trans hG.out (grown_below (bdrewN (bref _) nq))⟩
    · have HE := Lib.hid ((skipF_no (show isB B k 32 = false by unfold isB; simp [hlt])).symm.trans hS.out)
      have hb2 : decide ((k : Int) < (B.size : Int)) = false := by simp; omega
      go_wp2_with fail
      go_quiet (fail)
      go_wp2_with fail
      go_end0
      exact ⟨rfl, by rw [← HE.out]; exact hR.out.drewN nq, grown_trans hG.out (grown_below (bdrewN (bref _) nq))⟩

/-- Does the text s stand behind the blanks? -/
def signB (B : ByteArray) (a : Nat) (s : ByteArray) : Bool := decide (skipF B a + s.size ≤ B.size) && ((B.extract (skipF B a) (skipF B a + s.size)).toList == s.toList)

set_option maxRecDepth 100000 in
set_option maxHeartbeats 2000000 in
theorem rsign_run (B s : ByteArray) (r a : Nat) (w : World) (hB : B.size ≤ 1000000) (hs : s.size ≤ 100) (ha : a ≤ B.size) (h : RdAt w r B a) :
    Calls Tryd.prog 54 #[.pointer (some ⟨r, 0, none⟩), .string s] w fun e w' => e = .returned (.bool (signB B a s)) ∧ RdAt w' r B (if signB B a s then skipF B a + s.size else skipF B a) ∧ w.grownBy w' (some r) := by
  have H := Lib.hid h
  clear h
  obtain ⟨l0, l1⟩ := skipF_le ha
  obtain ⟨p, hp⟩ : ∃ p, skipF B a = p := ⟨_, rfl⟩
  have HP := Lib.hid hp
  have HSG := Lib.hid (show signB B a s = (decide (p + s.size ≤ B.size) && ((B.extract p (p + s.size)).toList == s.toList)) by unfold signB; rw [hp])
  generalize signB B a s = b at *
  rw [hp] at l0 l1 ⊢
  obtain ⟨q, hq⟩ : ∃ q, (if b = true then p + s.size else p) = q := ⟨_, rfl⟩
  rw [hq]
  have HQ := Lib.hid hq
  clear hp hq
  go_enter Tryd.func54, Tryd.ntmps54
  go_wp2_with fail
  refine (rskip_run B r a _ hB ha H.out).mono ?_
  rintro e w1 ⟨rfl, hR, hG⟩
  rw [HP.out] at hR
  have HR := Lib.hid hR
  have HG := Lib.hid hG
  clear hR hG
  obtain ⟨c0, c1⟩ := HR.out.cs
  have hf := HR.out.fr 1
  have hw : IntKind.i64.wrap ((p : Int) + (s.size : Int)) = (p : Int) + (s.size : Int) := IntWalk.i64_in _ (by omega)
  rcases (show decide (p + s.size ≤ B.size) = true ∨ decide (p + s.size ≤ B.size) = false by cases decide (p + s.size ≤ B.size) <;> simp) with h1 | h1
  · have h1' := of_decide_eq_true h1
    have h3 : decide ((B.size : Int) < (p : Int) + (s.size : Int)) = false := by simp; omega
    have h4 : ((p : Int) + (s.size : Int)) ≤ (B.size : Int) := by omega
    have h5 : (p : Int) ≤ (p : Int) + (s.size : Int) := by omega
    have h6 : ((p : Int) + (s.size : Int)).toNat = p + s.size := by omega
    rw [h1, Bool.true_and] at HSG
    generalize h2 : ((B.extract p (p + s.size)).toList == s.toList) = b2 at *
    obtain rfl : b = b2 := HSG.out
    clear HSG
    rcases (show b = true ∨ b = false by cases b <;> simp) with rfl | rfl
    · have hq := HQ.out
      rw [if_pos rfl] at hq
      subst hq
      clear HQ
      go_wp2_with fail
      go_quiet (fail)
      have HW := Lib.hid ((HR.out.drewN nq).set (p + s.size))
      go_wp2_with fail
      go_ret
      exact ⟨rfl, HW.out, grown_trans HG.out (grown_trans (grown_below (bdrewN (bref _) nq)) (gset1 (w1.drewN nq) ⟨r, 1, none⟩ _))⟩
    · have hq := HQ.out
      rw [if_neg (by simp)] at hq
      subst hq
      clear HQ
      go_wp2_with fail
      go_quiet (fail)
      go_wp2_with fail
      go_ret
      exact ⟨rfl, HR.out.drewN nq, grown_trans HG.out (grown_below (bdrewN (bref _) nq))⟩
  · have h1' := of_decide_eq_false h1
    rw [h1, Bool.false_and] at HSG
    obtain rfl : b = false := HSG.out
    have hq := HQ.out
    rw [if_neg (by simp)] at hq
    subst hq
    clear HSG HQ
    have h3 : decide ((B.size : Int) < (p : Int) + (s.size : Int)) = true := by simp; omega
    go_wp2_with fail
    go_quiet (fail)
    go_wp2_with fail
    go_ret
    exact ⟨rfl, HR.out.drewN nq, grown_trans HG.out (grown_below (bdrewN (bref _) nq))⟩

def isD (B : ByteArray) (a : Nat) : Bool := decide (a < B.size) && (decide (48 ≤ bt B a) && decide (bt B a ≤ 57))
theorem isD_iff {B : ByteArray} {a : Nat} : isD B a = true ↔ a < B.size ∧ 48 ≤ bt B a ∧ bt B a ≤ 57 := by unfold isD; simp
def digN' (B : ByteArray) : Nat → Nat → Nat
  | 0, a => a
  | n + 1, a => if isD B a then digN' B n (a + 1) else a
/-- The first place from a on that is no digit. -/
def digF (B : ByteArray) (a : Nat) : Nat := digN' B (B.size - a) a
theorem digF_yes {B : ByteArray} {a : Nat} (h : isD B a = true) : digF B a = digF B (a + 1) := by
  have := (isD_iff.1 h).1
  unfold digF
  rw [show B.size - a = (B.size - (a + 1)) + 1 by omega, digN', if_pos h]
theorem digF_no {B : ByteArray} {a : Nat} (h : isD B a = false) : digF B a = a := by
  unfold digF
  cases hn : B.size - a with
  | zero => rfl
  | succ n => rw [digN', h]; rfl
theorem digN'_le (B : ByteArray) : ∀ (n a : Nat), a ≤ B.size → a ≤ digN' B n a ∧ digN' B n a ≤ B.size ∧ ∀ i, a ≤ i → i < digN' B n a → isD B i = true
  | 0, a, h => ⟨Nat.le_refl _, h, fun i h1 h2 => absurd h2 (Nat.not_lt.2 h1)⟩
  | n + 1, a, h => by
    rw [digN']
    cases hb : isD B a
    · exact ⟨Nat.le_refl _, h, fun i h1 h2 => absurd h2 (Nat.not_lt.2 h1)⟩
    · have h1 := (isD_iff.1 hb).1
      obtain ⟨e1, e2, e3⟩ := digN'_le B n (a + 1) h1
      simp only [if_true]
      refine ⟨by omega, e2, fun i h2 h3 => ?_⟩
      rcases Nat.lt_or_ge a i with h4 | h4
      · exact e3 i h4 h3
      · obtain rfl : i = a := by omega
        exact hb
theorem digF_le {B : ByteArray} {a : Nat} (h : a ≤ B.size) : a ≤ digF B a ∧ digF B a ≤ B.size ∧ ∀ i, a ≤ i → i < digF B a → isD B i = true := digN'_le B _ a h
/-- The number that n digits from p on say. -/
def valN (B : ByteArray) (p : Nat) : Nat → Int
  | 0 => 0
  | n + 1 => 10 * valN B p n + (bt B (p + n) - 48)
/-- The number behind the blanks, and the place behind it. -/
def numF (B : ByteArray) (a : Nat) : Option (Int × Nat) :=
  if skipF B a = digF B (skipF B a) ∨ 4 < digF B (skipF B a) - skipF B a ∨ (1 < digF B (skipF B a) - skipF B a ∧ bt B (skipF B a) = 48) then none
  else some (valN B (skipF B a) (digF B (skipF B a) - skipF B a), digF B (skipF B a))
theorem valN_bound {B : ByteArray} {p q : Nat} (h : ∀ i, p ≤ i → i < q → isD B i = true) : ∀ n, n ≤ q - p → 0 ≤ valN B p n ∧ valN B p n ≤ 10 ^ n - 1
  | 0, _ => by simp [valN]
  | n + 1, hn => by
    obtain ⟨h1, h2⟩ := valN_bound h n (by omega)
    obtain ⟨_, h3, h4⟩ := isD_iff.1 (h (p + n) (by omega) (by omega))
    rw [valN, Int.pow_succ]
    omega
theorem bt_extract (B : ByteArray) (p q i : Nat) (hq : q ≤ B.size) (hi : p + i < q) : bt (B.extract p q) i = bt B (p + i) := by
  unfold bt
  rw [dif_pos (by rw [ByteArray.size_extract]; omega), dif_pos (by omega)]
  congr 2
  exact ByteArray.getElem_extract _

set_option maxRecDepth 100000 in
set_option maxHeartbeats 2000000 in
theorem rnumber_run (B : ByteArray) (r a b : Nat) (n : Int) (w : World) (hB : B.size ≤ 1000000) (ha : a ≤ B.size) (hn : numF B a = some (n, b)) (h : RdAt w r B a) :
    Calls Tryd.prog 45 #[.pointer (some ⟨r, 0, none⟩)] w fun e w' => e = .returned (.tuple #[.int .i64 n, .bool true]) ∧ RdAt w' r B b ∧ w.grownBy w' (some r) := by
  have H := Lib.hid h
  clear h
  obtain ⟨l0, l1⟩ := skipF_le ha
  unfold numF at hn
  have hdf := digF_le l1
  obtain ⟨p, hp⟩ : ∃ p, skipF B a = p := ⟨_, rfl⟩
  have HP := Lib.hid hp
  rw [hp] at hdf hn l0 l1
  clear hp
  generalize hd : digF B p = q at *
  obtain ⟨m0, m1, hD⟩ := hdf
  have HVB := Lib.hid (fun m => valN_bound hD m)
  by_cases hc : p = q ∨ 4 < q - p ∨ (1 < q - p ∧ bt B p = 48)
  · rw [if_pos hc] at hn; cases hn
  rw [if_neg hc] at hn
  simp only [Option.some.injEq, Prod.mk.injEq] at hn
  obtain ⟨hv, rfl⟩ := hn
  simp only [not_or, not_and] at hc
  obtain ⟨k0, k1, k2⟩ := hc
  have HK2 := Lib.hid k2
  have HD := Lib.hid hD
  have HV := Lib.hid hv
  have HDF := Lib.hid hd
  clear k2 hD hv hd
  have hget := get_bt B
  go_enter Tryd.func45, Tryd.ntmps45
  go_wp2_with fail
  refine (rskip_run B r a _ hB ha H.out).mono ?_
  rintro e w1 ⟨rfl, hR, hG⟩
  rw [HP.out] at hR
  have HR := Lib.hid hR
  have HG := Lib.hid hG
  clear hR hG
  obtain ⟨c0, c1⟩ := HR.out.cs
  have hf := HR.out.fr 1
  go_wp2_with fail
  go_loopw [4] (fun v W => ∃ k : Nat, p ≤ k ∧ k ≤ B.size ∧ v = .int .i64 (k : Int) ∧ Hid (digF B k = q) ∧ Hid (W = w1)) (fun v _ => B.size - (intOf v).toNat)
  case atStart => exact ⟨p, Nat.le_refl _, l1, rfl, HDF, Lib.hid rfl⟩
  case round =>
    obtain ⟨k, hk0, hk, rfl, hS, hW⟩ := hrel
    obtain rfl := hW.out
    have hc5 : k < B.size ∧ isD B k = true ∨ isD B k = false := by
      cases hb : isD B k
      · exact .inr rfl
      · exact .inl ⟨(isD_iff.1 hb).1, rfl⟩
    rcases hc5 with ⟨hlt, hb⟩ | hb
    · obtain ⟨_, d0, d1⟩ := isD_iff.1 hb
      have HE := Lib.hid ((digF_yes hb).symm.trans hS.out)
      clear hb
      go_wp2_with fail
      go_roundw
      case rel => exact ⟨k + 1, by omega, hlt, by go_num, HE, Lib.hid trivial⟩
      case measure => simp [intOf]; omega
    · obtain rfl : q = k := hS.out.symm.trans (digF_no hb)
      have hb3 : ¬ q < B.size ∨ (q < B.size ∧ ¬ 48 ≤ bt B q) ∨ (q < B.size ∧ 48 ≤ bt B q ∧ ¬ bt B q ≤ 57) := by
        rcases Nat.lt_or_ge q B.size with h1 | h1
        · rcases Int.lt_or_le (bt B q) 48 with h2 | h2
          · exact .inr (.inl ⟨h1, by omega⟩)
          · rcases Int.lt_or_le 57 (bt B q) with h3 | h3
            · exact .inr (.inr ⟨h1, h2, by omega⟩)
            · rw [isD_iff.2 ⟨h1, h2, h3⟩] at hb; cases hb
        · exact .inl (by omega)
      clear hb
      obtain ⟨m, rfl⟩ : ∃ m, q = p + m := ⟨q - p, by omega⟩
      rw [Nat.add_sub_cancel_left] at *
      have hm1 : 1 ≤ m := by omega
      have hm4 : m ≤ 4 := by omega
      have hsz : (B.extract p (p + m)).size = m := by rw [ByteArray.size_extract]; omega
      have HX := Lib.hid (fun i (hi : p + i < p + m) => bt_extract B p (p + m) i m1 hi)
      have hget2 := get_bt (B.extract p (p + m))
      have hne : ((B.extract p (p + m)).toList == []) = false := by
        rw [ByteArray.toList_eq, beq_eq_false_iff_ne]
        intro h
        have : (B.extract p (p + m)).data.toList.length = (B.extract p (p + m)).size := Array.length_toList
        rw [h, hsz] at this
        simp at this
        omega
      have hx0 := HX.out 0 (by omega)
      rw [Nat.add_zero] at hx0
      have e5 : ((p : Int) + (m : Int)).toNat = p + m := by omega
      have HPM := Lib.hid (show ((p + m : Nat) : Int) = (p : Int) + (m : Int) from rfl)
      have hcase : m = 1 ∨ (1 < m ∧ bt B p ≠ 48) := by
        rcases Nat.lt_or_ge 1 m with h1 | h1
        · exact .inr ⟨h1, HK2.out h1⟩
        · exact .inl (by omega)
      have hcase2 : m ≤ 1 ∨ (1 < m ∧ (bt (B.extract p (p + m)) 0 == 48) = false) := by
        rcases hcase with h | ⟨h, h'⟩
        · exact .inl (by omega)
        · exact .inr ⟨h, by rw [hx0, beq_eq_false_iff_ne]; exact h'⟩
      have HPD := Lib.hid (fun i (hi : i < m) => (isD_iff.1 (HD.out (p + i) (by omega) (by omega))).2)
      clear hcase hx0 HD HK2
      rcases hb3 with h1 | ⟨h1, h2⟩ | ⟨h1, h2, h3⟩
      all_goals rcases hcase2 with hm2 | ⟨hm2, hz⟩
      all_goals
        go_wp2_with fail
        go_quiet (fail)
        go_wp2_with fail
      all_goals
        clear hm2 k0 k1
        go_loopw [6, 7] (fun v u W => ∃ i : Nat, i ≤ m ∧ v = .int .i64 (valN B p i) ∧ u = .int .i64 (i : Int) ∧ Hid (RdAt W r B p) ∧ Hid (w.grownBy W (some r))) (fun _ u _ => m - (intOf u).toNat)
        case atStart => exact ⟨0, Nat.zero_le _, rfl, rfl, Lib.hid (HR.out.drewN nq), Lib.hid (grown_trans HG.out (grown_below (bdrewN (bref _) nq)))⟩
        case round =>
          obtain ⟨i, hi, rfl, rfl, hR5, hG5⟩ := hrel
          by_cases hlt : i < m
          · obtain ⟨d0, d1⟩ := HPD.out i hlt
            have hx := HX.out i (by omega)
            rw [← hx] at d0 d1
            have HN := Lib.hid (show valN B p (i + 1) = 10 * valN B p i + (bt B (p + i) - 48) from rfl)
            rw [← hx] at HN
            obtain ⟨v0, v1⟩ := HVB.out i (by omega)
            have v2 : valN B p i ≤ 999 := by
              have : (10 : Int) ^ i ≤ 10 ^ 3 := by
                have h3 : i ≤ 3 := by omega
                rcases (show i = 0 ∨ i = 1 ∨ i = 2 ∨ i = 3 by omega) with rfl | rfl | rfl | rfl <;> decide
              omega
            clear v1 hx
            have hd2 : (bt (B.extract p (p + m)) i - 48) % 256 = bt (B.extract p (p + m)) i - 48 := by omega
            have hx0' : IntKind.u8.wrap (bt (B.extract p (p + m)) i - 48) = bt (B.extract p (p + m)) i - 48 := by rw [IntKind.wrap_u8]; exact hd2
            have hx1' : IntKind.i64.wrap (bt (B.extract p (p + m)) i - 48) = bt (B.extract p (p + m)) i - 48 := IntWalk.i64_in _ (by omega)
            clear hd2
            generalize valN B p i = V at *
            go_wp2_with fail
            go_roundw
            case rel => exact ⟨i + 1, hlt, by rw [HN.out], by go_num, hR5, hG5⟩
            case measure => simp [intOf]; omega
          · obtain rfl : i = m := by omega
            obtain ⟨z0, z1⟩ := hR5.out.cs
            have zf := hR5.out.fr 1
            have HW := Lib.hid (hR5.out.set (p + i))
            go_wp2_with fail
            go_ret2
            exact ⟨by rw [← HV.out]; rfl, HW.out, grown_trans hG5.out (gset1 _ ⟨r, 1, none⟩ _)⟩
end Go.Proofs.YtcngpfffhjbiaaaDoor

namespace Go.Proofs.YtcngpfffhjbiaaaDoor
set_option linter.unusedVariables false
set_option linter.unusedSimpArgs false
open Go.RowKit Go.PlainAid

def sOf : ByteArray := ⟨#[111, 102]⟩
def sOp : ByteArray := ⟨#[40]⟩
def sCl : ByteArray := ⟨#[41]⟩
def sCo : ByteArray := ⟨#[44]⟩

/-- The entries of a trust and the place behind it, read with so much fuel. -/
def entF (B : ByteArray) : Nat → Nat → List Int → List Tree → Option (List Int × List Tree × Nat)
  | 0, _, _, _ => none
  | f + 1, a, ns, is =>
    match numF B a with
    | none => none
    | some (k, b) =>
      if isB B (skipF B b) 111 then
        if signB B (skipF B b) sOf && signB B (skipF B (skipF B b) + 2) sOp then
          match entF B f (skipF B (skipF B (skipF B b) + 2) + 1) [] [] with
          | none => none
          | some (ns', is', c) =>
            if signB B c sCl then some (ns, is ++ [.mk k ns' is'], skipF B c + 1)
            else if signB B (skipF B c) sCo then entF B f (skipF B (skipF B c) + 1) ns (is ++ [.mk k ns' is'])
            else none
        else none
      else
        if is.isEmpty then
          if signB B (skipF B b) sCl then some (ns ++ [k], is, skipF B (skipF B b) + 1)
          else if signB B (skipF B (skipF B b)) sCo then entF B f (skipF B (skipF B (skipF B b)) + 1) (ns ++ [k]) is
          else none
        else none
def restF (B : ByteArray) (f a : Nat) : Option (List Int × List Tree × Nat) :=
  if signB B a sOf && signB B (skipF B a + 2) sOp then entF B f (skipF B (skipF B a + 2) + 1) [] [] else none
/-- Behind an entry. -/
def nextF (B : ByteArray) (f c : Nat) (ns : List Int) (is : List Tree) : Option (List Int × List Tree × Nat) :=
  if signB B c sCl then some (ns, is, skipF B c + 1)
  else if signB B (skipF B c) sCo then entF B f (skipF B (skipF B c) + 1) ns is
  else none
theorem entF_step {B : ByteArray} {f a : Nat} {ns : List Int} {is : List Tree} {R : List Int × List Tree × Nat} (h : entF B f a ns is = some R) :
    ∃ f' k b, f = f' + 1 ∧ numF B a = some (k, b) ∧ ((isB B (skipF B b) 111 = true ∧ ∃ ns' is' c, restF B f' (skipF B b) = some (ns', is', c) ∧ nextF B f' c ns (is ++ [.mk k ns' is']) = some R) ∨ (isB B (skipF B b) 111 = false ∧ is = [] ∧ nextF B f' (skipF B b) (ns ++ [k]) is = some R)) := by
  cases f with
  | zero => cases h
  | succ f =>
    rw [entF] at h
    cases hn : numF B a with
    | none => rw [hn] at h; cases h
    | some kb =>
      obtain ⟨k, b⟩ := kb
      rw [hn] at h
      simp only at h
      refine ⟨f, k, b, rfl, rfl, ?_⟩
      cases ho : isB B (skipF B b) 111
      · right
        rw [ho, if_neg (by simp)] at h
        cases hi : is.isEmpty
        · rw [hi, if_neg (by simp)] at h; cases h
        · rw [hi, if_pos rfl] at h
          exact ⟨rfl, List.isEmpty_iff.1 hi, h⟩
      · left
        rw [ho, if_pos rfl] at h
        unfold restF
        cases hs : (signB B (skipF B b) sOf && signB B (skipF B (skipF B b) + 2) sOp)
        · rw [hs, if_neg (by simp)] at h; cases h
        · rw [hs, if_pos rfl] at h
          refine ⟨rfl, ?_⟩
          cases he : entF B f (skipF B (skipF B (skipF B b) + 2) + 1) [] [] with
          | none => rw [he] at h; cases h
          | some q =>
            obtain ⟨ns', is', c⟩ := q
            rw [he] at h
            exact ⟨ns', is', c, by rw [if_pos rfl], h⟩
theorem numF_place {B : ByteArray} {a b : Nat} {n : Int} (ha : a ≤ B.size) (h : numF B a = some (n, b)) : a < b ∧ b ≤ B.size := by
  obtain ⟨l0, l1⟩ := skipF_le ha
  obtain ⟨m0, m1, _⟩ := digF_le l1
  unfold numF at h
  by_cases hc : skipF B a = digF B (skipF B a) ∨ 4 < digF B (skipF B a) - skipF B a ∨ (1 < digF B (skipF B a) - skipF B a ∧ bt B (skipF B a) = 48)
  · rw [if_pos hc] at h; cases h
  · rw [if_neg hc] at h
    simp only [Option.some.injEq, Prod.mk.injEq] at h
    simp only [not_or] at hc
    omega
theorem signB_place {B s : ByteArray} {a : Nat} (h : signB B a s = true) : skipF B a + s.size ≤ B.size := by
  unfold signB at h
  rw [Bool.and_eq_true] at h
  exact of_decide_eq_true h.1
theorem TAt.mono {P : Nat → Prop} {w : World} {d d' : Nat} {v0 v1 v2 : Value} {T : Tree} (h : TAt P d w v0 v1 v2 T) (hd : d ≤ d') : TAt P d' w v0 v1 v2 T := by
  obtain ⟨k, rfl⟩ := Nat.le.dest hd
  clear hd
  induction k with
  | zero => exact h
  | succ k ih => exact ih.up

/-- The state of rest: the reader, the trust that is being made (block g + 1), the result's cell (block g). -/
def RestAt (w W : World) (g r : Nat) (B : ByteArray) (n : Int) (f a : Nat) (ns : List Int) (is : List Tree) (v1 v2 : Value) : Prop :=
  RdAt W r B a ∧ W.ownsRow (g + 2) 3 1 v1 ns.length (ns.map (Value.int .i64)) ∧ Inner (g + 2) f W v2 is ∧ OutAt W (g + 1) n v1 v2 ∧ OutAt W g 0 (.slice none 0 0) (.slice none 0 0) ∧ w.grownBy W (some r) ∧ (is = [] → v2 = .slice none 0 0)
theorem RestAt.call {w W W' : World} {g r : Nat} {B : ByteArray} {n : Int} {f a b : Nat} {ns : List Int} {is : List Tree} {v1 v2 : Value} (h : RestAt w W g r B n f a ns is v1 v2) (hr : r < g) (hg : W.grownBy W' (some r)) (hR : RdAt W' r B b) : RestAt w W' g r B n f b ns is v1 v2 := by
  obtain ⟨h1, h2, h3, h4, h5, h6, h7⟩ := h
  exact ⟨hR, h2.kept hg (own_below h2 (by omega)), h3.keep hg (fun j hj => by obtain rfl := Option.some.inj hj; omega), h4.keep (hg.block _ h4.lt (by simp; omega)), h5.keep (hg.block _ h5.lt (by simp; omega)), grown_trans h6 hg, h7⟩
theorem RestAt.bel {w W W' : World} {g r : Nat} {B : ByteArray} {n : Int} {f a : Nat} {ns : List Int} {is : List Tree} {v1 v2 : Value} (h : RestAt w W g r B n f a ns is v1 v2) (hr : r < g) (hb : Below W.heap.size W W') : RestAt w W' g r B n f a ns is v1 v2 :=
  h.call hr (grown_below hb) (h.1.keep (hb.block _ h.1.lt))
theorem entF_next {B : ByteArray} {f c : Nat} {ns : List Int} {is : List Tree} {R : List Int × List Tree × Nat} (h : nextF B f c ns is = some R) :
    (signB B c sCl = true ∧ R = (ns, is, skipF B c + 1)) ∨ (signB B c sCl = false ∧ signB B (skipF B c) sCo = true ∧ entF B f (skipF B (skipF B c) + 1) ns is = some R) := by
  unfold nextF at h
  cases h1 : signB B c sCl
  · rw [h1, if_neg (by simp)] at h
    cases h2 : signB B (skipF B c) sCo
    · rw [h2, if_neg (by simp)] at h; cases h
    · rw [h2, if_pos rfl] at h
      exact .inr ⟨rfl, rfl, h⟩
  · rw [h1, if_pos rfl] at h
    exact .inl ⟨rfl, (Option.some.inj h).symm⟩

/-- The contract of rest. -/
def RestC (f : Nat) : Prop := ∀ (B : ByteArray) (r a a' : Nat) (n : Int) (ns : List Int) (is : List Tree) (w : World), B.size ≤ 100000 → a ≤ B.size → RdAt w r B a → restF B f a = some (ns, is, a') →
    Calls Tryd.prog 46 #[.pointer (some ⟨r, 0, none⟩), .int .i64 n] w fun e w' => ∃ y0 y1 y2, e = .returned (.tuple #[.agg #[y0, y1, y2], .bool true]) ∧ TAt (fun b => w.heap.size ≤ b) (f + 1) w' y0 y1 y2 (.mk n ns is) ∧ (a < a' ∧ a' ≤ B.size) ∧ RdAt w' r B a' ∧ w.grownBy w' (some r)

set_option maxRecDepth 100000 in
set_option maxHeartbeats 8000000 in
theorem rest_step (f : Nat) (ih : ∀ f', f' < f → RestC f') : RestC f := by
  intro B r a a' n ns is w hB ha h hres
  obtain ⟨i0, hin, hz0, hz1, hz2⟩ := info_parts infoInt
  obtain ⟨i3, hi3, hy0, hy1, hy2⟩ := info_parts infoTrust
  unfold restF at hres
  cases hs : (signB B a sOf && signB B (skipF B a + 2) sOp)
  · rw [hs, if_neg (by simp)] at hres; cases hres
  rw [hs, if_pos rfl] at hres
  obtain ⟨hs1, hs2⟩ := Bool.and_eq_true_iff.1 hs
  have hp1 := signB_place hs1
  have hp2 := signB_place hs2
  have hz1' : sOf.size = 2 := rfl
  have hz2' : sOp.size = 1 := rfl
  rw [hz1'] at hp1
  rw [hz2'] at hp2
  have HS1 := Lib.hid hs1
  have HS2 := Lib.hid hs2
  have HRES := Lib.hid hres
  have hrl := h.lt
  have hb3 : Below w.heap.size w ((w.alloc (.cells #[.int .i64 0, .slice none 0 0, .slice none 0 0] 28)).alloc (.cells #[.int .i64 n, .slice none 0 0, .slice none 0 0] 28)) := balloc (balloc (bref w) _) _
  have k1 : OutAt ((w.alloc (.cells #[.int .i64 0, .slice none 0 0, .slice none 0 0] 28)).alloc (.cells #[.int .i64 n, .slice none 0 0, .slice none 0 0] 28)) w.heap.size 0 (.slice none 0 0) (.slice none 0 0) := alloc_on (alloc_at rfl)
  have k2 : OutAt ((w.alloc (.cells #[.int .i64 0, .slice none 0 0, .slice none 0 0] 28)).alloc (.cells #[.int .i64 n, .slice none 0 0, .slice none 0 0] 28)) (w.heap.size + 1) n (.slice none 0 0) (.slice none 0 0) := alloc_at (by rw [alloc_sz])
  have hsz : ((w.alloc (.cells #[.int .i64 0, .slice none 0 0, .slice none 0 0] 28)).alloc (.cells #[.int .i64 n, .slice none 0 0, .slice none 0 0] 28)).heap.size = w.heap.size + 2 := by rw [alloc_sz, alloc_sz]
  have HB := Lib.hid hb3
  have K1 := Lib.hid k1
  have K2 := Lib.hid k2
  have KR := Lib.hid (h.keep (hb3.block r hrl))
  have HI := Lib.hid ih
  clear h hb3 k1 k2 hs hs1 hs2 hres ih
  go_enter Tryd.func46, Tryd.ntmps46
  go_upto_region 2 with fail
  generalize ((w.alloc (.cells #[.int .i64 0, .slice none 0 0, .slice none 0 0] 28)).alloc (.cells #[.int .i64 n, .slice none 0 0, .slice none 0 0] 28)) = W1 at *
  generalize hg : w.heap.size = g at *
  have HG := Lib.hid hg
  clear hg
  go_wp2_with fail
  refine (rsign_run B sOf r a _ (by omega) (by decide) ha KR.out).mono ?_
  rintro e w2 ⟨rfl, hR2, hG2⟩
  rw [HS1.out, if_pos rfl, hz1'] at hR2
  rw [HS1.out]
  have HR2 := Lib.hid hR2
  have HG2 := Lib.hid hG2
  clear hR2 hG2
  go_wp2_with fail
  refine (rsign_run B sOp r _ _ (by omega) (by decide) (by omega) HR2.out).mono ?_
  rintro e w3 ⟨rfl, hR3, hG3⟩
  rw [HS2.out, if_pos rfl, hz2'] at hR3
  rw [HS2.out]
  have HR3 := Lib.hid hR3
  have HG3 := Lib.hid (grown_trans HG2.out hG3)
  have hw3 := HG3.out.size
  have hR0 : RestAt w w3 g r B n f (skipF B (skipF B a + 2) + 1) [] [] (.slice none 0 0) (.slice none 0 0) :=
    ⟨HR3.out, World.ownsRow_nil _ _ _ _, Inner.nil _ _ _, K2.out.keep (HG3.out.block (g + 1) (by omega) (by simp; omega)), K1.out.keep (HG3.out.block g (by omega) (by simp; omega)), grown_trans (grown_below (by have h1 := HB.out; rw [← HG.out] at h1; exact h1)) HG3.out, fun _ => rfl⟩
  have HR0 := Lib.hid hR0
  clear hR3 hG3 HR2 HG2 K1 K2 KR hR0 HR3
  go_wp2_with fail
  go_loopw [] (fun W => ∃ (f1 a1 : Nat) (ns1 : List Int) (is1 : List Tree) (v1 v2 : Value), f1 ≤ f ∧ a < a1 ∧ a1 ≤ B.size ∧ ns1.length + is1.length ≤ a1 ∧ Hid (entF B f1 a1 ns1 is1 = some (ns, is, a')) ∧ Hid (RestAt w W g r B n f a1 ns1 is1 v1 v2)) (fun W => B.size - standsAt W r)
  case atStart => exact ⟨f, _, [], [], _, _, Nat.le_refl _, by have := (skipF_le ha).1; have := (skipF_le hp1).1; omega, hp2, Nat.zero_le _, HRES, HR0⟩
  case round =>
    clear HRES HR0 hw3 HG3
    obtain ⟨f1, a1, ns1, is1, v1, v2, hf1, hap, ha1, hl1, hE, hS⟩ := hrel
    obtain ⟨f2, k, b, rfl, hnum, hcases⟩ := entF_step hE.out
    obtain ⟨hb1, hb2⟩ := numF_place ha1 hnum
    obtain ⟨q0, q1⟩ := skipF_le hb2
    have HN := Lib.hid hnum
    have HM := Lib.hid hS.out.1.stands
    have hC := hcases
    have HC := Lib.hid hcases
    clear hcases hnum hE
    go_wp2_with fail
    refine (rnumber_run B r a1 b k _ (by omega) ha1 HN.out hS.out.1).mono ?_
    rintro e w4 ⟨rfl, hR4, hG4⟩
    have HS4 := Lib.hid (hS.out.call hrl hG4 hR4)
    clear hR4 hG4 hS
    go_wp2_with fail
    refine (rskip_run B r b _ (by omega) hb2 HS4.out.1).mono ?_
    rintro e w5 ⟨rfl, hR5, hG5⟩
    have HS5 := Lib.hid (HS4.out.call hrl hG5 hR5)
    clear hR5 hG5 HS4
    obtain ⟨p, hp⟩ : ∃ p, skipF B b = p := ⟨_, rfl⟩
    rw [hp] at HS5 HC q0 q1 hC
    clear hp
    obtain ⟨c0, c1⟩ := HS5.out.1.cs
    have hget := get_bt B
    rcases hC with ⟨ho, ns', is', c, hin2, hnx⟩ | ⟨ho, hnil1, hnx⟩
    · obtain ⟨o0, o1⟩ := isB_iff.1 ho
      have HIN := Lib.hid hin2
      have HNX := Lib.hid hnx
      clear hin2 hnx ho HC
      go_wp2_with fail
      go_quiet (fail)
      have HS6 := Lib.hid (HS5.out.bel hrl (bdrewN (bref _) nq))
      clear HS5 c0 c1 hget
      generalize w5.drewN nq = w6 at *
      go_wp2_with fail
      refine (HI.out f2 (by omega) B r p c k ns' is' _ hB q1 HS6.out.1 HIN.out).mono ?_
      rintro e W6 ⟨y0, y1, y2, rfl, hT6, hc6, hR6, hG6⟩
      obtain ⟨t2, A2, n2, c2, B2, m2, c3, rfl, rfl, rfl⟩ := hT6.form
      have hbA := balloc (bref W6) (.cells #[.int .i64 t2, .slice A2 n2 c2, .slice B2 m2 c3] 28)
      have HS7 := Lib.hid ((HS6.out.call hrl hG6 hR6).bel hrl hbA)
      have HT7 := Lib.hid ((hT6.mono (show f2 + 1 ≤ f by omega)).below hbA)
      have HSZ := Lib.hid (show w6.heap.size ≤ W6.heap.size from hG6.size)
      have k3 : (W6.alloc (.cells #[.int .i64 t2, .slice A2 n2 c2, .slice B2 m2 c3] 28)).heap[W6.heap.size]? = some (.cells #[.int .i64 t2, .slice A2 n2 c2, .slice B2 m2 c3] 28 (0, 0)) := alloc_at rfl
      have HK3 := Lib.hid k3
      have HOWB := Lib.hid (fun q (hq : v2.ownBlock = some q) => (HS6.out.2.2.1.own q hq).2)
      have HC6 := Lib.hid hc6
      clear hT6 hR6 hG6 hbA k3 hc6
      go_upto_region 12 with fail
      generalize W6.alloc (.cells #[.int .i64 t2, .slice A2 n2 c2, .slice B2 m2 c3] 28) = W3 at *
      generalize W6.heap.size = r3 at *
      have r0 : W3.cell? ⟨r3, 0, none⟩ = some (.int .i64 t2) := cell_of_row _ _ 0 _ _ (0, 0) HK3.out
      have r1 : W3.cell? ⟨r3, 1, none⟩ = some (.slice A2 n2 c2) := cell_of_row _ _ 1 _ _ (0, 0) HK3.out
      have r2 : W3.cell? ⟨r3, 2, none⟩ = some (.slice B2 m2 c3) := cell_of_row _ _ 2 _ _ (0, 0) HK3.out
      obtain ⟨hR7, hown, hInn, hO, hZ, hgw, hn0⟩ := HS7.out
      have hol := hO.lt
      obtain ⟨o0, o1, o2⟩ := hO.cs
      have of2 := hO.fr 2
      obtain ⟨cs, hcs, hcl⟩ := hInn
      have hcn := hcs.1
      have HOWI := Lib.hid (fun q (hq : v2.ownBlock = some q) => (hcs.lt q hq).1)
      have HCS3 := Lib.hid hcs
      have HCSA := Lib.hid (hcs.alloc (.cells #[.int .i64 t2, .slice A2 n2 c2, .slice B2 m2 c3] 28))
      have HNEW := Lib.hid (cell_three_new W3 (.int .i64 t2) (.slice A2 n2 c2) (.slice B2 m2 c3) 28)
      have HBA4 := Lib.hid (balloc (bref W3) (.cells #[.int .i64 t2, .slice A2 n2 c2, .slice B2 m2 c3] 28))
      have HSZ4 := Lib.hid (alloc_sz W3 (.cells #[.int .i64 t2, .slice A2 n2 c2, .slice B2 m2 c3] 28))
      have HCL := Lib.hid hcl
      have HR7 := Lib.hid hR7
      have HOWN := Lib.hid hown
      have HO7 := Lib.hid hO
      have HZ := Lib.hid hZ
      have HGW := Lib.hid hgw
      clear hcs hcl hR7 hown hO hZ hgw hn0
      go_wp2_with (at_builtin; refine wpList_append_lies _ rfl _ _ 26 rfl (g + 2) 28 i3 (.agg #[.int .i64 0, .slice none 0 0, .slice none 0 0]) 3 56 Tryd.underlying26 hi3 hy0 hy1 hy2 rfl (by decide) _ is1.length cs rfl (by exact HCSA.out) ⟨_, 0, none⟩ 1 1 [.int .i64 t2, .slice A2 n2 c2, .slice B2 m2 c3] rfl rfl (by exact HNEW.out) (by intro u hu; simp at hu; rcases hu with rfl | rfl | rfl <;> rfl) (by omega) (by unfold maxLen; omega) (by omega) (by have := HSZ4.out; omega) _ rfl ?_; intro g4 cap4 W5 hown4 hgrow4 hat4 hlt4; have hO5 := HO7.out.keep ((hgrow4.block (g + 1) (by have := HSZ4.out; omega) (fun e => by have := HOWI.out _ e.symm; omega)).trans (HBA4.out.block (g + 1) hol)); obtain ⟨s0, s1, s2⟩ := hO5.cs; have sf2 := hO5.fr 2)
      have hgB : (W3.alloc (.cells #[.int .i64 t2, .slice A2 n2 c2, .slice B2 m2 c3] 28)).grownBy W5 v2.ownBlock := ⟨hgrow4.os, hgrow4.tape, hgrow4.output, hgrow4.size, hgrow4.block⟩
      have hI5 := Inner.append (W := W3.alloc (.cells #[.int .i64 t2, .slice A2 n2 c2, .slice B2 m2 c3] 28)) (fun k T hT => by
          obtain ⟨z0, z1, z2, e0, e1, e2, e3⟩ := HCL.out k T hT
          exact ⟨z0, z1, z2, e0, e1, e2, e3.below HBA4.out⟩) hcn
        ((HT7.out.below HBA4.out).imp (fun q _ hq => ⟨by have := HS6.out.2.2.2.1.lt; omega, fun e => by have := HOWB.out q e; omega⟩)) hown4 hgB hat4
      have hOWA := own_bel HOWN.out HBA4.out
      have HT := Lib.hid (show RestAt w (W5.setCell ⟨g + 1, 2, none⟩ (.slice (some ⟨g4, 0, none⟩) (is1.length + 1) cap4)) g r B n f c ns1 (is1 ++ [.mk k ns' is']) v1 (.slice (some ⟨g4, 0, none⟩) (is1.length + 1) cap4) from by
        have hlo : ∀ q, q < g + 2 → q ≠ g + 1 → (W5.setCell ⟨g + 1, 2, none⟩ (.slice (some ⟨g4, 0, none⟩) (is1.length + 1) cap4)).heap[q]? = W3.heap[q]? := fun q hq hne => by
          refine (Below.heap_setCell _ _ _ _ (by simpa using hne)).trans ((hgB.block q (by have := HSZ4.out; omega) (fun e => by have := HOWI.out _ e.symm; omega)).trans (HBA4.out.block q (by omega)))
        refine ⟨HR7.out.keep (hlo r (by omega) (by omega)), (hOWA.kept hgB (own_apart hOWA HCSA.out)).kept (gset1 W5 ⟨g + 1, 2, none⟩ _) (own_below (hOWA.kept hgB (own_apart hOWA HCSA.out)) (by simp)), hI5.setLow (p := ⟨g + 1, 2, none⟩) (by simp) _, hO5.set2 _, HZ.out.keep (hlo g (by omega) (by omega)), ?_, fun e => by simp at e⟩
        exact gset (gown (grown_trans HGW.out (grown_below HBA4.out)) hgB (fun q hq => by have := HOWI.out q hq; have := HG.out; omega)) (p := ⟨g + 1, 2, none⟩) (by show w.heap.size ≤ g + 1; have := HG.out; omega) _)
      have HCB := Lib.hid HC6.out.2
      have HLN := Lib.hid (show ns1.length + (is1 ++ [Tree.mk k ns' is']).length ≤ c ∧ c ≤ 100000 by rw [List.length_append]; simp; have := HC6.out; omega)
      have HLC := Lib.hid (show a1 < c ∧ c ≤ skipF B c ∧ skipF B c ≤ skipF B (skipF B c) from ⟨by have := HC6.out; omega, (skipF_le HC6.out.2).1, (skipF_le (skipF_le HC6.out.2).2).1⟩)
      clear hown4 hgrow4 hat4 hlt4 hgB hI5 hOWA s0 s1 s2 sf2 hO5 r0 r1 r2 o0 o1 o2 of2
      go_wp2_with fail
      generalize is1 ++ [Tree.mk k ns' is'] = IS at HT HNX HLN
      rcases entF_next HNX.out with ⟨hc1, hc2⟩ | ⟨hc1, hc2, hc3⟩
      · have HC1 := Lib.hid hc1
        have HP1 := Lib.hid (signB_place hc1)
        have hEQ : ns = ns1 ∧ is = IS ∧ a' = skipF B c + 1 := by
          have h1 := hc2
          simp only [Prod.mk.injEq] at h1
          exact h1
        have HEQ := Lib.hid hEQ
        clear hc1 hc2 hEQ
        go_wp2_with fail
        refine (rsign_run B sCl r c _ (by omega) (by decide) HCB.out HT.out.1).mono ?_
        rintro e W8 ⟨rfl, hR8, hG8⟩
        rw [HC1.out, if_pos rfl] at hR8
        rw [HC1.out]
        have HS8 := Lib.hid (HT.out.call hrl hG8 hR8)
        clear hR8 hG8
        obtain ⟨hR9, hown9, hInn9, hO9, hZ9, hgw9, _⟩ := HS8.out
        obtain ⟨A1, x1, hv1⟩ := own_slice hown9
        obtain ⟨A2, x2, hv2⟩ := hInn9.slice
        obtain ⟨t0, t1, t2⟩ := hO9.cs
        obtain ⟨z0, z1, z2⟩ := hZ9.cs
        have zf0 := hZ9.fr 0
        have zf1 := hZ9.fr 1
        have zf2 := hZ9.fr 2
        have hol9 := hZ9.lt
        rw [hv1] at t1
        rw [hv2] at t2
        have H9 := Lib.hid hR9
        have HW9 := Lib.hid hown9
        have HI9 := Lib.hid hInn9
        have HGW9 := Lib.hid hgw9
        have HV1 := Lib.hid hv1
        have HV2 := Lib.hid hv2
        clear hR9 hown9 hInn9 hO9 hZ9 hgw9 hv1 hv2
        go_wp2_with fail
        have hgl := HG.out
        have K1' := ((HW9.out.kept (gset1 W8 ⟨g, 0, none⟩ (.int .i64 n)) (own_below HW9.out (by simp))).kept (gset1 _ ⟨g, 1, none⟩ (.slice A1 (ns1).length x1)) (own_below HW9.out (by simp))).kept (gset1 _ ⟨g, 2, none⟩ (.slice A2 (IS).length x2)) (own_below HW9.out (by simp))
        have K2' := ((HI9.out.setLow (p := ⟨g, 0, none⟩) (by simp) (.int .i64 n)).setLow (p := ⟨g, 1, none⟩) (by simp) (.slice A1 (ns1).length x1)).setLow (p := ⟨g, 2, none⟩) (by simp) (.slice A2 (IS).length x2)
        refine bodyPost_ret (v := .tuple #[.agg #[.int .i64 n, .slice A1 (ns1).length x1, .slice A2 (IS).length x2], .bool true]) ?_ rfl ⟨_, _, _, rfl, ?_, ?_, ?_, ?_⟩
        · simp [results, Tryd.results46, go_sem, z0, z1, z2]
        · obtain ⟨e1, e2, e3⟩ := HEQ.out
          rw [e1, e2]
          rw [HV1.out] at K1'
          rw [HV2.out] at K2'
          exact made (fun b hb => by omega) (by have := HLN.out; omega) (by have := HLN.out; omega) K1' K2'
        · obtain ⟨e1, e2, e3⟩ := HEQ.out
          have := HP1.out
          rw [show sCl.size = 1 from rfl] at this
          have := HLC.out
          omega
        · obtain ⟨e1, e2, e3⟩ := HEQ.out
          rw [e3]
          refine H9.out.keep ((Below.heap_setCell _ _ _ _ (by simp; omega)).trans ((Below.heap_setCell _ _ _ _ (by simp; omega)).trans (Below.heap_setCell _ _ _ _ (by simp; omega))))
        · exact gset (gset (gset HGW9.out (p := ⟨g, 0, none⟩) (by show w.heap.size ≤ g; omega) _) (p := ⟨g, 1, none⟩) (by show w.heap.size ≤ g; omega) _) (p := ⟨g, 2, none⟩) (by show w.heap.size ≤ g; omega) _
      · have HC1 := Lib.hid hc1
        have HC2 := Lib.hid hc2
        have HE3 := Lib.hid hc3
        have hp8 := signB_place hc2
        obtain ⟨y0', y1'⟩ := skipF_le HCB.out
        obtain ⟨y2', y3'⟩ := skipF_le y1'
        rw [show sCo.size = 1 from rfl] at hp8
        clear hc1 hc2 hc3
        go_wp2_with fail
        refine (rsign_run B sCl r c _ (by omega) (by decide) HCB.out HT.out.1).mono ?_
        rintro e W8 ⟨rfl, hR8, hG8⟩
        rw [HC1.out, if_neg (by simp)] at hR8
        rw [HC1.out]
        have HS8 := Lib.hid (HT.out.call hrl hG8 hR8)
        clear hR8 hG8
        go_wp2_with fail
        refine (rsign_run B sCo r (skipF B c) _ (by omega) (by decide) y1' HS8.out.1).mono ?_
        rintro e W9 ⟨rfl, hR9, hG9⟩
        rw [HC2.out, if_pos rfl] at hR9
        rw [HC2.out]
        have HS9 := Lib.hid (HS8.out.call hrl hG9 hR9)
        clear hR9 hG9
        have HST := Lib.hid HS9.out.1.stands
        go_wp2_with fail
        refine ⟨⟨f2, _, _, _, _, _, by omega, by have := HLC.out; omega, hp8, by have := HLN.out; have := HLC.out; omega, HE3, HS9⟩, ?_⟩
        rw [HST.out, HM.out]
        have := HLC.out
        omega
    · have ho2 : p < B.size ∧ ¬ bt B p = 111 ∨ ¬ p < B.size := by
        rcases Nat.lt_or_ge p B.size with h1 | h1
        · left
          refine ⟨h1, fun h2 => ?_⟩
          rw [isB_iff.2 ⟨h1, h2⟩] at ho; cases ho
        · exact .inr (by omega)
      have HNX := Lib.hid hnx
      clear hnx ho HC
      rcases ho2 with ⟨o0, o1⟩ | o0
      all_goals
        go_wp2_with fail
        go_quiet (fail)
        have HS6 := Lib.hid (HS5.out.bel hrl (bdrewN (bref _) nq))
        clear HS5 c0 c1 hget
        generalize w5.drewN nq = w6 at *
        obtain ⟨hR6, hown, hInn, hO, hZ, hgw, hn0⟩ := HS6.out
        subst hnil1
        obtain rfl := hn0 rfl
        have hol := hO.lt
        obtain ⟨s0, s1, s2⟩ := hO.cs
        have sf1 := hO.fr 1
        have HOB := Lib.hid (fun (q : Nat) (hq : v1.ownBlock = some q) => (hown.lt q hq).1)
        have HR6 := Lib.hid hR6
        have HIN := Lib.hid hInn
        have HZ := Lib.hid hZ
        have HGW := Lib.hid hgw
        have HO := hO
        clear hR6 hInn hZ hgw hO
        go_wp2_with (at_builtin; refine wpList_append_own _ rfl _ _ 22 rfl (g + 2) 3 i0 (.int .i64 0) 1 8 Tryd.underlying22 hin hz0 hz1 hz2 rfl (by decide) _ _ _ rfl (hown.alloc _) ⟨w6.heap.size, 0, none⟩ 1 1 [.int .i64 k] rfl rfl (cell_one_new _ _ _) (fun u hu => by simp at hu; subst hu; rfl) (by unfold maxLen; omega) (by omega) (by simp; omega) ?_; intro v' W2 hown' hgrow hnil; obtain ⟨gq, cq, rfl, hgq, hlq⟩ := hown'.form (by omega); have hO3 := HO.keep ((hgrow.block _ (by simp; omega) (fun e => by have := HOB.out _ e.symm; omega)).trans (Below.heap_alloc _ _ _ hol)); obtain ⟨p0, p1, p2⟩ := hO3.cs; have pf1 := hO3.fr 1)
        have hX := hown'.kept (gset1 W2 ⟨g + 1, 1, none⟩ (.slice (some ⟨gq, 0, none⟩) (ns1.length + 1) cq)) (.inr (by simp [Value.ownBlock]; omega))
        have hX2 := own_snoc hX
        have HT := Lib.hid (show RestAt w (W2.setCell ⟨g + 1, 1, none⟩ (.slice (some ⟨gq, 0, none⟩) (ns1.length + 1) cq)) g r B n f p (ns1 ++ [k]) [] (.slice (some ⟨gq, 0, none⟩) (ns1.length + 1) cq) (.slice none 0 0) from by
          have hlo : ∀ q, q < g + 2 → q ≠ g + 1 → (W2.setCell ⟨g + 1, 1, none⟩ (.slice (some ⟨gq, 0, none⟩) (ns1.length + 1) cq)).heap[q]? = w6.heap[q]? := fun q hq hne => by
            refine (Below.heap_setCell _ _ _ _ (by simpa using hne)).trans ((hgrow.block q (by simp; omega) (fun e => by have := HOB.out _ e.symm; omega)).trans (Below.heap_alloc _ _ _ (by omega)))
          refine ⟨HR6.out.keep (hlo r (by omega) (by omega)), by simpa using hX2, Inner.nil _ _ _, hO3.set1 _, HZ.out.keep (hlo g (by omega) (by omega)), ?_, fun _ => rfl⟩
          exact gset (gown (grown_trans HGW.out (grown_below (balloc (bref w6) (.cells #[.int .i64 k] 3)))) hgrow (fun q hq => by have := HOB.out q hq; have := HG.out; omega)) (p := ⟨g + 1, 1, none⟩) (by show w.heap.size ≤ g + 1; have := HG.out; omega) _)
        have HCB := Lib.hid q1
        have HLN := Lib.hid (show (ns1 ++ [k]).length + ([] : List Tree).length ≤ p ∧ p ≤ 100000 by simp; simp at hl1; omega)
        have HLC := Lib.hid (show a1 < p ∧ p ≤ skipF B p ∧ skipF B p ≤ skipF B (skipF B p) from ⟨by omega, (skipF_le q1).1, (skipF_le (skipF_le q1).2).1⟩)
        clear hX hX2 hown' hgrow hnil hown p0 p1 p2 pf1 hO3 s0 s1 s2 sf1 HO HS6
        have HT := HT
        go_wp2_with fail
        generalize ns1 ++ [k] = NS at HT HNX HLN
        generalize ([] : List Tree) = IS at HT HNX HLN
        rcases entF_next HNX.out with ⟨hc1, hc2⟩ | ⟨hc1, hc2, hc3⟩
        · have HC1 := Lib.hid hc1
          have HP1 := Lib.hid (signB_place hc1)
          have hEQ : ns = NS ∧ is = IS ∧ a' = skipF B p + 1 := by
            have h1 := hc2
            simp only [Prod.mk.injEq] at h1
            exact h1
          have HEQ := Lib.hid hEQ
          clear hc1 hc2 hEQ
          go_wp2_with fail
          refine (rsign_run B sCl r p _ (by omega) (by decide) HCB.out HT.out.1).mono ?_
          rintro e W8 ⟨rfl, hR8, hG8⟩
          rw [HC1.out, if_pos rfl] at hR8
          rw [HC1.out]
          have HS8 := Lib.hid (HT.out.call hrl hG8 hR8)
          clear hR8 hG8
          obtain ⟨hR9, hown9, hInn9, hO9, hZ9, hgw9, _⟩ := HS8.out
          obtain ⟨A1, x1, hv1⟩ := own_slice hown9
          obtain ⟨A2, x2, hv2⟩ := hInn9.slice
          obtain ⟨t0, t1, t2⟩ := hO9.cs
          obtain ⟨z0, z1, z2⟩ := hZ9.cs
          have zf0 := hZ9.fr 0
          have zf1 := hZ9.fr 1
          have zf2 := hZ9.fr 2
          have hol9 := hZ9.lt
          rw [hv1] at t1
          rw [hv2] at t2
          have H9 := Lib.hid hR9
          have HW9 := Lib.hid hown9
          have HI9 := Lib.hid hInn9
          have HGW9 := Lib.hid hgw9
          have HV1 := Lib.hid hv1
          have HV2 := Lib.hid hv2
          clear hR9 hown9 hInn9 hO9 hZ9 hgw9 hv1 hv2
          go_wp2_with fail
          have hgl := HG.out
          have K1' := ((HW9.out.kept (gset1 W8 ⟨g, 0, none⟩ (.int .i64 n)) (own_below HW9.out (by simp))).kept (gset1 _ ⟨g, 1, none⟩ (.slice A1 (NS).length x1)) (own_below HW9.out (by simp))).kept (gset1 _ ⟨g, 2, none⟩ (.slice A2 (IS).length x2)) (own_below HW9.out (by simp))
          have K2' := ((HI9.out.setLow (p := ⟨g, 0, none⟩) (by simp) (.int .i64 n)).setLow (p := ⟨g, 1, none⟩) (by simp) (.slice A1 (NS).length x1)).setLow (p := ⟨g, 2, none⟩) (by simp) (.slice A2 (IS).length x2)
          refine bodyPost_ret (v := .tuple #[.agg #[.int .i64 n, .slice A1 (NS).length x1, .slice A2 (IS).length x2], .bool true]) ?_ rfl ⟨_, _, _, rfl, ?_, ?_, ?_, ?_⟩
          · simp [results, Tryd.results46, go_sem, z0, z1, z2]
          · obtain ⟨e1, e2, e3⟩ := HEQ.out
            rw [e1, e2]
            rw [HV1.out] at K1'
            rw [HV2.out] at K2'
            exact made (fun b hb => by omega) (by have := HLN.out; omega) (by have := HLN.out; omega) K1' K2'
          · obtain ⟨e1, e2, e3⟩ := HEQ.out
            have := HP1.out
            rw [show sCl.size = 1 from rfl] at this
            have := HLC.out
            omega
          · obtain ⟨e1, e2, e3⟩ := HEQ.out
            rw [e3]
            refine H9.out.keep ((Below.heap_setCell _ _ _ _ (by simp; omega)).trans ((Below.heap_setCell _ _ _ _ (by simp; omega)).trans (Below.heap_setCell _ _ _ _ (by simp; omega))))
          · exact gset (gset (gset HGW9.out (p := ⟨g, 0, none⟩) (by show w.heap.size ≤ g; omega) _) (p := ⟨g, 1, none⟩) (by show w.heap.size ≤ g; omega) _) (p := ⟨g, 2, none⟩) (by show w.heap.size ≤ g; omega) _
        · have HC1 := Lib.hid hc1
          have HC2 := Lib.hid hc2
          have HE3 := Lib.hid hc3
          have hp8 := signB_place hc2
          obtain ⟨y0', y1'⟩ := skipF_le HCB.out
          obtain ⟨y2', y3'⟩ := skipF_le y1'
          rw [show sCo.size = 1 from rfl] at hp8
          clear hc1 hc2 hc3
          go_wp2_with fail
          refine (rsign_run B sCl r p _ (by omega) (by decide) HCB.out HT.out.1).mono ?_
          rintro e W8 ⟨rfl, hR8, hG8⟩
          rw [HC1.out, if_neg (by simp)] at hR8
          rw [HC1.out]
          have HS8 := Lib.hid (HT.out.call hrl hG8 hR8)
          clear hR8 hG8
          go_wp2_with fail
          refine (rsign_run B sCo r (skipF B p) _ (by omega) (by decide) y1' HS8.out.1).mono ?_
          rintro e W9 ⟨rfl, hR9, hG9⟩
          rw [HC2.out, if_pos rfl] at hR9
          rw [HC2.out]
          have HS9 := Lib.hid (HS8.out.call hrl hG9 hR9)
          clear hR9 hG9
          have HST := Lib.hid HS9.out.1.stands
          go_wp2_with fail
          refine ⟨⟨f2, _, _, _, _, _, by omega, by have := HLC.out; omega, hp8, by have := HLN.out; have := HLC.out; omega, HE3, HS9⟩, ?_⟩
          rw [HST.out, HM.out]
          have := HLC.out
          omega

theorem rest_all (f : Nat) : RestC f := by
  induction f using Nat.strongRecOn with
  | ind f ih => exact rest_step f ih
end Go.Proofs.YtcngpfffhjbiaaaDoor
