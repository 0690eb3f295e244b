/- The contract of catchup.Trusted: a map is filled, and ranged over. -/
import Derived.Test.YtoceogdpkfcghaaDoorSat
import Derived.Test.YtoceogdpkfcghaaDoorDual
import Derived.Test.YtoceogdpkfcghaaDoorUses
import Derived.Test.YtoceogdpkfcghaaDoorFits
import Derived.Test.YtoceogdpkfcghaaDoorInner0
import Derived.Maps.OwnOps
import Derived.Maps.Views
import Derived.Maps.RangeWalk
namespace Go.Proofs.YtoceogdpkfcghaaDoor
set_option linter.unusedVariables false
set_option linter.unusedSimpArgs false
open Go.RowKit Go.Maps

/-- Who says y among the first k. -/
def sayN (l : List Int) (y : Int) : Nat → Nat
  | 0 => 0
  | k + 1 => if l.getD k 0 = y then sayN l y k ||| 2 ^ k else sayN l y k
theorem sayN_lt (l : List Int) (y : Int) : ∀ k, k ≤ 10 → sayN l y k < 2 ^ k
  | 0, _ => by unfold sayN; omega
  | k + 1, h => by
    have ih := sayN_lt l y k (by omega)
    unfold sayN
    have h2 : 2 ^ (k + 1) = 2 * 2 ^ k := by rw [Nat.pow_succ]; omega
    split
    · exact Nat.or_lt_two_pow (by omega) (by omega)
    · omega
def ky (y : Int) : Lit := .int .u64 y
structure SaidOk {H : Type} (D : DataW H) (l : List Int) (k : Nat) : Prop where
  isMap : IsMap D
  at_ : ∀ y, y ≠ 0 → D.atKey (ky y) (.lit (.int .i64 0)) = .lit (.int .i64 ((sayN l y k : Nat) : Int))
  has_ : ∀ y, Maps.has D (ky y) = true ↔ y ≠ 0 ∧ ∃ i, i < k ∧ l.getD i 0 = y
theorem SaidOk.start {H : Type} (l : List Int) : SaidOk (H := H) (.map []) l 0 := ⟨⟨[], rfl⟩, fun y _ => rfl, fun y => by
  constructor
  · intro h; cases h
  · rintro ⟨_, i, h, _⟩; omega⟩
theorem SaidOk.skip {H : Type} {D : DataW H} {l : List Int} {k : Nat} (h : SaidOk D l k) (h0 : l.getD k 0 = 0) : SaidOk D l (k + 1) :=
  ⟨h.isMap, fun y hy => by
    rw [h.at_ y hy]
    have : sayN l y (k + 1) = sayN l y k := by
      show (if l.getD k 0 = y then sayN l y k ||| 2 ^ k else sayN l y k) = _
      rw [if_neg (fun e => hy (by rw [← e, h0]))]
    rw [this], fun y => by
    rw [h.has_ y]
    refine and_congr_right (fun hy => ?_)
    constructor
    · rintro ⟨i, h1, h2⟩; exact ⟨i, by omega, h2⟩
    · rintro ⟨i, h1, h2⟩
      rcases Nat.lt_or_ge i k with h3 | h3
      · exact ⟨i, h3, h2⟩
      · obtain rfl : i = k := by omega
        exact absurd (by rw [← h2, h0]) hy⟩
theorem ky_inj {a b : Int} (h : ky a = ky b) : a = b := by
  unfold ky at h
  injection h
theorem SaidOk.put {H : Type} {D : DataW H} {l : List Int} {k : Nat} {x : Int} (h : SaidOk D l k) (hx : l.getD k 0 = x) (h0 : x ≠ 0) : SaidOk (D.put (ky x) (.lit (.int .i64 ((sayN l x k ||| 2 ^ k : Nat) : Int)))) l (k + 1) := by
  have hk : WideAt.IsKeyLit (ky x) := trivial
  refine ⟨?_, fun y hy => ?_, fun y => ?_⟩
  · obtain ⟨es, rfl⟩ := h.isMap
    exact ⟨_, rfl⟩
  · by_cases e : y = x
    · subst e
      rw [atKey_put_same h.isMap hk]
      have : sayN l y (k + 1) = sayN l y k ||| 2 ^ k := by
        show (if l.getD k 0 = y then sayN l y k ||| 2 ^ k else sayN l y k) = _
        rw [if_pos hx]
      rw [this]
    · rw [atKey_put_other (fun h2 => e (ky_inj h2)), h.at_ y hy]
      have : sayN l y (k + 1) = sayN l y k := by
        show (if l.getD k 0 = y then sayN l y k ||| 2 ^ k else sayN l y k) = _
        rw [if_neg (fun h2 => e (by rw [← h2, hx]))]
      rw [this]
  · by_cases e : y = x
    · subst e
      rw [has_put_same h.isMap hk]
      simp only [true_iff]
      exact ⟨h0, k, by omega, hx⟩
    · rw [has_put_other (fun h2 => e (ky_inj h2)), h.has_ y]
      refine and_congr_right (fun hy => ?_)
      constructor
      · rintro ⟨i, h1, h2⟩; exact ⟨i, by omega, h2⟩
      · rintro ⟨i, h1, h2⟩
        rcases Nat.lt_or_ge i k with h3 | h3
        · exact ⟨i, h3, h2⟩
        · obtain rfl : i = k := by omega
          exact absurd (by rw [← h2, hx]) e
theorem same_ky (a b : Int) : (ky a).sameKey (ky b) = decide (a = b) := by
  unfold ky
  simp [Lit.sameKey]
/-- What has been found among those that are no longer to come. -/
structure FoundOk (d : Nat) (T : Tree) (l : List Int) (n : Nat) (left : Lit → Bool) (b : Int) : Prop where
  lo : 0 ≤ b ∧ b ≤ 18446744073709551615
  good : b = 0 ∨ ((∃ i, i < n ∧ l.getD i 0 = b) ∧ satB d T ((sayN l b n : Nat) : Int) = true)
  least : ∀ y, y ≠ 0 → (∃ i, i < n ∧ l.getD i 0 = y) → left (ky y) = false → satB d T ((sayN l y n : Nat) : Int) = true → b ≠ 0 ∧ b ≤ y
theorem left_ky {left : Lit → Bool} {x y : Int} (h : (left (ky y) && !(ky y).sameKey (ky x)) = false) : left (ky y) = false ∨ y = x := by
  rw [same_ky] at h
  by_cases e : y = x
  · exact .inr e
  · rw [decide_eq_false e] at h
    left; simpa using h
theorem FoundOk.take {d n : Nat} {T : Tree} {l : List Int} {left : Lit → Bool} {b x : Int} (h : FoundOk d T l n left b) (hr : 0 ≤ x ∧ x ≤ 18446744073709551615) (hx0 : x ≠ 0) (hin : ∃ i, i < n ∧ l.getD i 0 = x) (hs : satB d T ((sayN l x n : Nat) : Int) = true) (hb : b = 0 ∨ x < b) : FoundOk d T l n (fun z => left z && !z.sameKey (ky x)) x :=
  ⟨hr, .inr ⟨hin, hs⟩, fun y hy hi hl hsy => by
    rcases left_ky hl with h1 | rfl
    · have h2 := h.least y hy hi h1 hsy
      exact ⟨hx0, by rcases hb with h3 | h3 <;> omega⟩
    · exact ⟨hx0, Int.le_refl _⟩⟩
theorem FoundOk.leave {d n : Nat} {T : Tree} {l : List Int} {left : Lit → Bool} {b x : Int} (h : FoundOk d T l n left b) (hb : satB d T ((sayN l x n : Nat) : Int) = false ∨ (b ≠ 0 ∧ b ≤ x)) : FoundOk d T l n (fun z => left z && !z.sameKey (ky x)) b :=
  ⟨h.lo, h.good, fun y hy hi hl hsy => by
    rcases left_ky hl with h1 | rfl
    · exact h.least y hy hi h1 hsy
    · rcases hb with h3 | h3
      · rw [h3] at hsy; cases hsy
      · exact h3⟩
/-- What Trusted returns. -/
def TrustedOk (d : Nat) (T : Tree) (l : List Int) (e : Ending) : Prop := ∃ b : Int, e = .returned (.tuple #[.int .u64 b, .bool (b != 0)]) ∧ FoundOk d T l l.length (fun _ => false) b

theorem zeroI (w : World) : (zeroValue 3).run Tryd.prog w = .ok (.int .i64 0) w := by kernel_rfl
theorem lawU : Keyed Tryd.prog 30 := int_keyed Tryd.underlying30

/-- The world of Trusted behind its box. -/
structure TrW (d : Nat) (T : Tree) (w : World) (g : Nat) (t : Int) (v1 v2 : Value) (W : World) : Prop where
  out : OutAt W g t v1 v2
  mem : TAt (fun b => b < g) d W (.int .i64 t) v1 v2 T
  below : Below w.heap.size w W
theorem TrW.grow {d : Nat} {T : Tree} {w W W' : World} {g q : Nat} {t : Int} {v1 v2 : Value} (h : TrW d T w g t v1 v2 W) (hw : w.heap.size = g) (hg : W.grownBy W' (some q)) (hq : g < q) : TrW d T w g t v1 v2 W' :=
  ⟨h.out.keep (hg.block _ h.out.lt (by simp; omega)), h.mem.keep (fun j hj hP => hg.block j hj (by simp; omega)), Below.grown h.below hg h.below.size (fun j hj => by cases hj; omega)⟩
theorem TrW.bel {d : Nat} {T : Tree} {w W W' : World} {g : Nat} {t : Int} {v1 v2 : Value} (h : TrW d T w g t v1 v2 W) (hb : Below W.heap.size W W') : TrW d T w g t v1 v2 W' :=
  ⟨h.out.keep (hb.block _ h.out.lt), h.mem.below hb, bstep h.below hb⟩

set_option maxRecDepth 100000 in
set_option maxHeartbeats 4000000 in
theorem trusted_run (P : Nat → Prop) (d : Nat) (T : Tree) (v0 v1 v2 : Value) (A : Option Addr) (l : List Int) (c : Nat) (w : World) (hl1 : 1 ≤ l.length) (hl : l.length ≤ 10) (hT : TAt P d w v0 v1 v2 T) (hz : ∀ z ∈ l, 0 ≤ z ∧ z ≤ 18446744073709551615)
    (hN : ∀ k, k < l.length → ∃ b off, A = some ⟨b, off, none⟩ ∧ w.cell? ⟨b, off + k, none⟩ = some (.int .u64 (l.getD k 0))) (hc : l.length ≤ c) :
    Calls Tryd.prog 7 #[.slice A l.length c, .agg #[v0, v1, v2]] w fun e w' => TrustedOk d T l e ∧ Below w.heap.size w w' := by
  have hmm := @run_makeMap Tryd.prog
  obtain ⟨t', A', n', ca, B', m', cb, rfl, rfl, rfl⟩ := hT.form
  have hb1 : Below w.heap.size w (w.alloc (.cells #[.int .i64 t', .slice A' n' ca, .slice B' m' cb] 27)) := balloc (bref w) _
  have HTW := Lib.hid (show TrW d T w w.heap.size t' (.slice A' n' ca) (.slice B' m' cb) ((w.alloc (.cells #[.int .i64 t', .slice A' n' ca, .slice B' m' cb] 27)).alloc (.map #[] 0)) from
    ⟨alloc_on (alloc_at rfl), (hT.imp (Q := fun b => b < w.heap.size) (fun k hk _ => hk)).below (balloc hb1 _), balloc hb1 _⟩)
  have HOM := Lib.hid (show ((w.alloc (.cells #[.int .i64 t', .slice A' n' ca, .slice B' m' cb] 27)).alloc (.map #[] 0)).ownsMap Tryd.prog 30 (plainElem (H := Unit) Tryd.prog 3) (w.heap.size + 1) 0 (.map []) by
    have h := World.ownsMap_made (w.alloc (.cells #[.int .i64 t', .slice A' n' ca, .slice B' m' cb] 27)) Tryd.prog 30 (plainElem (H := Unit) Tryd.prog 3)
    rw [alloc_sz] at h
    exact h)
  have HSO := Lib.hid (SaidOk.start (H := Unit) l)
  have HZ := Lib.hid hz
  have HN := Lib.hid hN
  obtain ⟨n, hn⟩ : ∃ n, l.length = n := ⟨_, rfl⟩
  have HNN := Lib.hid hn
  rw [hn] at HN hc hl hl1 ⊢
  clear hT hb1 hz hN hn
  go_enter Tryd.func7, Tryd.ntmps7
  go_upto_region 3 with fail
  generalize (w.alloc (.cells #[.int .i64 t', .slice A' n' ca, .slice B' m' cb] 27)).alloc (.map #[] 0) = W1 at *
  generalize hg : w.heap.size = g at *
  have HG := Lib.hid hg
  clear hg
  go_loopw [19] (fun t W => ∃ (k : Nat) (D : DataW Unit), k ≤ n ∧ t = .int .i64 k ∧ Hid (W.ownsMap Tryd.prog 30 (plainElem (H := Unit) Tryd.prog 3) (g + 1) k D) ∧ Hid (SaidOk D l k) ∧ Hid (TrW d T w g t' (.slice A' n' ca) (.slice B' m' cb) W)) (fun t _ => n - (intOf t).toNat)
  case atStart => exact ⟨0, _, Nat.zero_le _, rfl, HOM, HSO, HTW⟩
  case round =>
    obtain ⟨k, D, hk, rfl, hO, hS, hW⟩ := hrel
    by_cases hlt : k < n
    · obtain ⟨b, off, rfl, hcell⟩ := HN.out k hlt
      have hck := (hW.out.below.cell (cell_lt hcell)).trans hcell
      have hzr := HZ.out (l.getD k 0) (by rw [List.getD_eq_getElem?_getD, List.getElem?_eq_getElem (by rw [HNN.out]; exact hlt)]; exact List.getElem_mem _)
      have HZK := Lib.hid (show l.getD k 0 = l.getD k 0 from rfl)
      obtain ⟨z, hzz⟩ : ∃ z, l.getD k 0 = z := ⟨_, rfl⟩
      rw [hzz] at hck hzr
      have HZZ := Lib.hid hzz
      clear hcell hzz HZK
      by_cases h0 : z = 0
      · subst h0
        have HS2 := Lib.hid (hS.out.skip HZZ.out)
        have HO2 := Lib.hid (hO.out.mono (Nat.le_succ k))
        go_wp2_with fail
        go_roundw
        case rel => exact ⟨k + 1, D, hlt, by go_num, HO2, HS2, hW⟩
        case measure => simp [intOf]; omega
      · have q0 : (z != 0) = true := bne_iff_ne.2 h0
        have hwz : (Lit.int .u64 z).wf = true := WalkArith.wf_u64 hzr
        have hkey : keyOf Tryd.prog 30 (.int .u64 z) = some (ky z) := keyOf_int_mk Tryd.underlying30 hwz
        obtain ⟨cc, hrun, hat, hwc⟩ := hO.out.drew.lookup_int lawU Tryd.underlying41 Tryd.underlying3 (zeroI _) hkey
        rw [hS.out.at_ z h0] at hat
        obtain rfl : ((sayN l z k : Nat) : Int) = cc := by injection hat with h1; injection h1
        have hsl := sayN_lt l z k (by omega)
        have hkp : 2 ^ k ≤ 2 ^ 10 := Nat.pow_le_pow_right (by omega) (by omega)
        have hor := shl_or (sayN l z k) k (by omega) (by omega)
        have hol : sayN l z k ||| 2 ^ k < 1024 := Nat.or_lt_two_pow (n := 10) (by omega) (Nat.pow_lt_pow_right (by omega) (by omega))
        have hwf2 : (Lit.int .i64 ((sayN l z k ||| 2 ^ k : Nat) : Int)).wf = true := WalkArith.wf_i64 (by omega)
        obtain ⟨W5, hrunU, hownU, hgU⟩ := hO.out.drew.update lawU Tryd.underlying41 (by unfold maxLen; omega) hkey (plainElem_int (H := Unit) Tryd.underlying3 hwf2)
        have HS2 := Lib.hid (hS.out.put HZZ.out h0)
        have HO2 := Lib.hid hownU
        have HW2 := Lib.hid (hW.out.bel (W' := wr.drew) ⟨rfl, rfl, rfl, Nat.le_refl _, fun _ _ => rfl⟩)
        have HW3 := Lib.hid (HW2.out.grow HG.out hgU (by omega))
        clear hownU hgU hat hkey
        go_upto_region 6 with fail
        go_region
        all_goals
          go_wp2_with fail
          go_roundw
          case rel => exact ⟨k + 1, _, hlt, by go_num, HO2, HS2, HW3⟩
          case measure => simp [intOf]; omega
    · obtain rfl : k = n := by omega
      have hown := hO.out
      have HSE := Lib.hid (show ∀ y, Maps.has D (ky y) = true ↔ y ≠ 0 ∧ ∃ i, i < k ∧ l.getD i 0 = y from hS.out.has_)
      have HSA := Lib.hid hS.out.at_
      go_wp2_with (first
        | (at_range; refine wpList_range_own _ rfl _ 41 rfl 30 3 lawU Tryd.underlying41 _ (g + 1) k _ rfl hown ?_; intro W6 hrg0 hg0 hs0)
        | go_in)
      go_frame
      have HRL := Lib.hid (show g + 1 < wr.heap.size from hown.lt)
      have HW6 := Lib.hid (TrW.bel hW.out ⟨hg0.os, hg0.tape, hg0.output, hg0.size, fun j hj => hg0.block j hj (by simp)⟩)
      have HR0 := Lib.hid hrg0
      generalize wr.heap.size = R at *
      clear hown hg0 hs0 hrg0
      go_loopw [9] (fun v W => ∃ (left : Lit → Bool) (cnt : Nat) (b : Int), v = .int .u64 b ∧ Hid (W.ranges Tryd.prog 30 (plainElem (H := Unit) Tryd.prog 3) (g + 1) R k D left cnt) ∧ Hid (∀ y, left (ky y) = true → Maps.has D (ky y) = true) ∧ Hid (FoundOk d T l k left b) ∧ Hid (TrW d T w g t' (.slice A' n' ca) (.slice B' m' cb) W)) (fun _ W => W.rangeLeft (g + 1) R)
      case atStart =>
        refine ⟨_, _, 0, rfl, HR0, Lib.hid (fun y h => h), Lib.hid ⟨⟨by omega, by omega⟩, .inl rfl, fun y hy hi hl hs => ?_⟩, HW6⟩
        rw [(HSE.out y).2 ⟨hy, hi⟩] at hl
        cases hl
      case round =>
        obtain ⟨left, cnt, b, rfl, hrgH, hsub, hF, hW7⟩ := hrel
        have hrg := hrgH.out
        have hRg := HRL.out
        go_wp2_with (first
          | (at_next; refine wpList_next_ranges_ii _ rfl _ rfl 30 3 .u64 .i64 lawU Tryd.underlying30 Tryd.underlying3 (g + 1) R k _ _ _ rfl hrg ?_ ?_)
          | go_in)
        · intro _ hl0
          have HFF := Lib.hid (show TrustedOk d T l (.returned (.tuple #[.int .u64 b, .bool (b != 0)])) from ⟨b, rfl, by
            rw [HNN.out]
            exact ⟨hF.out.lo, hF.out.good, fun y hy hi _ hs => hF.out.least y hy hi (hl0 _) hs⟩⟩)
          have HBF := Lib.hid hW7.out.below
          clear hl0 hrg
          go_wp2_with fail
          go_ret2
          exact ⟨HFF.out, HBF.out⟩
        · intro x cx w1 cnt1 hwx hwc hlx hat hrg1 hlt1 hg1 hs1 hen
          have hkx := (HSE.out x).1 (hsub.out x hlx)
          have hcx : cx = ((sayN l x k : Nat) : Int) := by
            have h1 := HSA.out x hkx.1
            rw [show ky x = .int .u64 x from rfl, hat] at h1
            injection h1 with h2; injection h2
          subst hcx
          have HW8 := Lib.hid (hW7.out.grow HG.out hg1 (by omega))
          have HR8 := Lib.hid hrg1
          have HSUB := Lib.hid (show ∀ y, (fun z : Lit => left z && !z.sameKey (ky x)) (ky y) = true → Maps.has D (ky y) = true from fun y h => hsub.out y (by
            have h2 : (left (ky y) && !(ky y).sameKey (ky x)) = true := h
            rw [Bool.and_eq_true] at h2
            exact h2.1))
          have hxr : 0 ≤ x ∧ x ≤ 18446744073709551615 := (show IntKind.u64.min ≤ x ∧ x ≤ IntKind.u64.max by simpa [Lit.wf] using hwx)
          have HM := Lib.hid (show wr.rangeLeft (g + 1) R = cnt from hrg.left_eq)
          have HLT := Lib.hid hlt1
          have HKX := Lib.hid hkx
          obtain ⟨o0, o1, o2⟩ := HW8.out.out.cs
          clear hrg1 hg1 hs1 hat hlx hwc hwx hrg hkx hlt1
          go_wp2_with fail
          refine (satisfied_run _ d T _ _ _ _ _ HW8.out.mem).mono ?_
          rintro e w2 ⟨rfl, hb2⟩
          have HW9 := Lib.hid (HW8.out.bel hb2)
          have HR9 := Lib.hid (HR8.out.kept (grown_below (r := none) hb2) (by simp) (by simp))
          have HST := Lib.hid (show satB d T ((sayN l x k : Nat) : Int) = satB d T ((sayN l x k : Nat) : Int) from rfl)
          obtain ⟨st, hst⟩ : ∃ st, satB d T ((sayN l x k : Nat) : Int) = st := ⟨_, rfl⟩
          rw [hst]
          have HSTT := Lib.hid hst
          clear hb2 hst o0 o1 o2 HST
          rcases (show st = false ∨ st = true by cases st <;> simp) with rfl | rfl
          · have HF2 := Lib.hid (hF.out.leave (.inl HSTT.out))
            go_wp2_with fail
            go_roundw
            case rel => exact ⟨_, cnt1, b, rfl, HR9, HSUB, HF2, HW9⟩
            case measure => rw [HR9.out.left_eq, HM.out]; exact HLT.out
          · by_cases hb0 : b = 0
            · subst hb0
              have HF2 := Lib.hid (hF.out.take hxr HKX.out.1 HKX.out.2 HSTT.out (.inl rfl))
              go_wp2_with fail
              go_roundw
              case rel => exact ⟨_, cnt1, x, rfl, HR9, HSUB, HF2, HW9⟩
              case measure => rw [HR9.out.left_eq, HM.out]; exact HLT.out
            · have q0 : (b == 0) = false := beq_eq_false_iff_ne.2 hb0
              by_cases hxb : x < b
              · have HF2 := Lib.hid (hF.out.take hxr HKX.out.1 HKX.out.2 HSTT.out (.inr hxb))
                go_wp2_with fail
                go_roundw
                case rel => exact ⟨_, cnt1, x, rfl, HR9, HSUB, HF2, HW9⟩
                case measure => rw [HR9.out.left_eq, HM.out]; exact HLT.out
              · have HF2 := Lib.hid (hF.out.leave (x := x) (.inr ⟨hb0, by omega⟩))
                go_wp2_with fail
                go_roundw
                case rel => exact ⟨_, cnt1, b, rfl, HR9, HSUB, HF2, HW9⟩
                case measure => rw [HR9.out.left_eq, HM.out]; exact HLT.out
end Go.Proofs.YtoceogdpkfcghaaDoor
