/- slices.least: the contract of the loop over all sets that collects the least ones. -/
import Derived.Test.YthbiopmfbnpmfaaImpl
import Derived.Test.YthbiopmfbnpmfaaMeet
import Derived.Test.YthbiopmfbnpmfaaB2
import Derived.Maps.AppendAt
namespace Go.Proofs.Ythbiopmfbnpmfaa
set_option linter.unusedVariables false
set_option linter.unusedSimpArgs false
open Go.RowKit Go.Shelf
attribute [local go_sem] Oper.semAt_some

set_option maxRecDepth 100000 in
set_option maxHeartbeats 4000000 in
/-- The iterator over all sets, for every loop body: all come, in their order. -/
theorem sets_all (Kp : World → World → Prop) (n : Nat) (hn : 2 ≤ n) (w : World) :
    SeqStopsK Fence.wide n Try.prog 46 #[] (fun x : Fin 1024 => #[Value.int .i64 ((x.val : Nat) : Int)]) Kp (fun xs => xs.map (·.val) = ordN 10) (fun _ => True) 1025 w := fun l J Jx W hW hJ hJx hY h0 => by
  refine callsIn_of_wp Try.func46 rfl trivial ?_ rfl
  simp only [Try.ntmps46, List.size_toArray, List.length_cons, List.length_nil, Nat.reduceAdd, Nat.reduceSub, Array.replicate_succ, Array.replicate_zero, List.push_toArray, List.append_toArray, List.nil_append, List.cons_append]
  gi_wp2
  gi_loopw [2, 3] (fun sv kv wr => ∃ (s : Nat) (ok : Bool) (pre : List (Fin 1024)), sv = .int .i64 (s : Int) ∧ kv = .bool ok ∧ s < 1024 ∧ (ok = true → (ordN 10)[pre.length]? = some s) ∧ Hid (pre.map (·.val) = (ordN 10).take pre.length) ∧ Hid (ok = false → pre.length = 1024) ∧ J pre wr) (fun sv kv _ => match kv with | .bool b => boolS b (intOf sv).toNat | _ => 0)
  case atStart => exact ⟨0, true, [], rfl, rfl, by omega, fun _ => ord_zero _, Lib.hid (by simp), Lib.hid (fun h => by cases h), h0⟩
  case round =>
    obtain ⟨s, ok, pre, rfl, rfl, hs, hT, HPre, HEnd, hJs⟩ := hrel
    cases ok
    · have HS := Lib.hid (show pre.map (·.val) = ordN 10 from by
        rw [HPre.out, HEnd.out rfl]
        exact List.take_of_length_le (by rw [ord_len]; decide))
      gi_wp2
      refine ⟨fun _ h => (by cases h), ?_⟩
      gi_wp2
      go_end0
      exact ⟨⟨_, rfl⟩, .inl ⟨pre, HS.out, hJs⟩⟩
    · have hi := hT rfl
      have hlen : pre.length < 1024 := by
        have h := (List.getElem?_eq_some_iff.1 hi).1
        rw [ord_len] at h; exact h
      obtain ⟨fn, tmps, assign, body, hy, hR⟩ := hY pre ⟨s, hs⟩ wr hJs (by omega)
      dsimp only at hy
      have HI := Lib.hid hi
      have HR := Lib.hid hR
      have HPre2 := Lib.hid (show (pre ++ [(⟨s, hs⟩ : Fin 1024)]).map (·.val) = (ordN 10).take (pre ++ [(⟨s, hs⟩ : Fin 1024)]).length from by
        rw [List.map_append, HPre.out, List.length_append]
        show _ = List.take (pre.length + 1) _
        rw [List.take_add_one, hi]; rfl)
      clear hi hT hR
      gi_wp2
      refine ⟨fun _ => by omega, ?_⟩
      refine HR.out.mono ?_
      rintro e W3 (⟨rfl, hJ3, hk3⟩ | ⟨rfl, hJx3⟩)
      · have hst := ord_step 10 (by omega) pre.length s HI.out
        have HN := Lib.hid (show Calls Try.prog 47 #[.int .i64 (s : Int), .int .i64 10] W3 (fun e w' => e = nextR 10 s ∧ W3 = w') from pnext_run s 10 (by omega) (by omega) W3)
        clear hy
        rcases Nat.lt_or_ge (nextN 10 s) (2 ^ 10) with hnx | hnx
        · have HE := Lib.hid (show nextR 10 s = .returned (.tuple #[.int .i64 (nextN 10 s : Int), .bool true]) by
            unfold nextR; rw [if_neg (show ¬ 2 ^ 10 ≤ nextN 10 s by omega), decide_eq_false (show ¬ 2 ^ 10 ≤ nextN 10 s by omega)]; rfl)
          have HK := Lib.hid (keyN_next 10 (by omega) s (by omega) hnx)
          have HKL := Lib.hid (keyN_lt _ (show nextN 10 s < 1024 by omega))
          have HST := Lib.hid (hst.1 hnx)
          have HNL := Lib.hid (show nextN 10 s < 1024 by omega)
          rw [HE.out] at HN
          clear hst hnx
          generalize nextN 10 s = sn at *
          gi_wp2
          refine ⟨trivial, fun _ => by omega, ?_⟩
          refine (callsIn_wide.2 HN.out).mono ?_
          rintro e w' ⟨rfl, rfl⟩
          gi_wp2
          go_roundw
          case rel => exact ⟨sn, true, pre ++ [⟨s, hs⟩], rfl, rfl, HNL.out, fun _ => by rw [List.length_append]; exact HST.out, HPre2, Lib.hid (fun h => by cases h), hJ3⟩
          case measure =>
            have h1 := HK.out
            have h2 := HKL.out
            show 20001 - keyN ((sn : Int)).toNat < 20001 - keyN ((s : Int)).toNat
            rw [Int.toNat_natCast, Int.toNat_natCast]
            omega
        · have HE := Lib.hid (show nextR 10 s = .returned (.tuple #[.int .i64 ((0 : Nat) : Int), .bool false]) by
            unfold nextR; rw [if_pos (show 2 ^ 10 ≤ nextN 10 s by omega), decide_eq_true (show 2 ^ 10 ≤ nextN 10 s by omega)]; rfl)
          have HKL := Lib.hid (keyN_lt s hs)
          have HEN := Lib.hid (show (pre ++ [(⟨s, hs⟩ : Fin 1024)]).length = 1024 from by rw [List.length_append]; exact hst.2 hnx)
          rw [HE.out] at HN
          clear hst hnx
          gi_wp2
          refine ⟨trivial, fun _ => by omega, ?_⟩
          refine (callsIn_wide.2 HN.out).mono ?_
          rintro e w' ⟨rfl, rfl⟩
          gi_wp2
          go_roundw
          case rel => exact ⟨0, false, pre ++ [⟨s, hs⟩], rfl, rfl, by omega, (fun h => by cases h), HPre2, Lib.hid (fun _ => HEN.out), hJ3⟩
          case measure =>
            have h2 := HKL.out
            show 0 < 20001 - keyN ((s : Int)).toNat
            rw [Int.toNat_natCast]
            omega
      · gi_wp2
        go_end0
        exact ⟨⟨_, rfl⟩, .inr ⟨pre ++ [⟨s, hs⟩], trivial, hJx3⟩⟩

/-- One set more is looked at. -/
def lstep (p : Nat → Bool) (l : List Nat) (s : Nat) : List Nat := if p s && !(l.any (fun t => subB t s)) then l ++ [s] else l

def lfold (p : Nat → Bool) (xs : List Nat) : List Nat := xs.foldl (lstep p) []

theorem lfold_snoc (p : Nat → Bool) (xs : List Nat) (s : Nat) : lfold p (xs ++ [s]) = lstep p (lfold p xs) s := by unfold lfold; rw [List.foldl_append]; rfl

theorem lstep_len (p : Nat → Bool) (l : List Nat) (s : Nat) : (lstep p l s).length ≤ l.length + 1 := by unfold lstep; split <;> simp

theorem lfold_len (p : Nat → Bool) : ∀ (xs l : List Nat), (xs.foldl (lstep p) l).length ≤ l.length + xs.length
  | [], l => by simp
  | x :: xs, l => by
    have h1 := lfold_len p xs (lstep p l x)
    have h2 := lstep_len p l x
    rw [List.foldl_cons, List.length_cons]; omega

theorem lfold_sub (p : Nat → Bool) : ∀ (xs l : List Nat) (t : Nat), t ∈ xs.foldl (lstep p) l → t ∈ l ∨ t ∈ xs
  | [], l, t, h => .inl h
  | x :: xs, l, t, h => by
    rcases lfold_sub p xs (lstep p l x) t h with h1 | h1
    · unfold lstep at h1
      split at h1
      · rcases List.mem_append.1 h1 with h2 | h2
        · exact .inl h2
        · have : t = x := by simpa using h2
          exact .inr (by simp [this])
      · exact .inl h1
    · exact .inr (List.mem_cons_of_mem _ h1)

set_option maxHeartbeats 400000 in
/-- The closure that asks for a subset. -/
theorem sl1_run (s t : Nat) (sb : Nat) (hs : s < 1024) (ht : t < 1024) (w : World) (hc : w.cell? ⟨sb, 0, none⟩ = some (.int .i64 (s : Int))) :
    Calls Try.prog 37 #[.int .i64 (t : Int), .pointer (some ⟨sb, 0, none⟩)] w fun e w' => e = .returned (.bool (subB t s)) ∧ Below w.heap.size w w' := by
  have HA := Lib.hid (andnot_sub t s ht hs)
  go_enter Try.func37, Try.ntmps37
  go_wp2_with fail
  go_ret
  exact ⟨by rw [← HA.out]; rfl, bref _⟩

theorem enters_sl1 : ∀ args w, (callFunc 37 args).run Try.prog w = .ok (.enter 37 args) w := enters_of Try.func37 (by kernel_rfl) rfl

theorem own_belS {W W' : World} {B size k : Nat} {e : TypeId} {v : Value} {xs : List Value} (h : W.ownsRow B e size v k xs) (hb : Below W.heap.size W W') : W'.ownsRow B e size v k xs := by
  refine h.kept (grown_below (r := none) hb) ?_
  rcases h.2 with ⟨rfl, _⟩ | ⟨g, cap, cur, rfl, _⟩
  · exact .inl rfl
  · exact .inr (by simp [Value.ownBlock])

/-- The world of slices.least between two rounds. -/
def SlI (w : World) (p : Nat → Bool) (clo : Value) (pre : List (Fin 1024)) (W : World) : Prop :=
  (∃ v, Boxed W (w.heap.size + 1) 22 v ∧ W.ownsRow w.heap.size 3 1 v (lfold p (pre.map (·.val))).length ((zs (lfold p (pre.map (·.val)))).map (Value.int .i64)) ∧ True) ∧ Boxed W w.heap.size 44 clo

set_option maxRecDepth 100000 in
set_option maxHeartbeats 4000000 in
theorem sleast_run (G b0 b1 : Nat) (p : Nat → Bool) (w : World) (eg : ∀ args w, (callFunc G args).run Try.prog w = .ok (.enter G args) w)
    (hcl : ∀ s : Nat, s < 1024 → ∀ W, Below w.heap.size w W → Calls Try.prog G #[.int .i64 (s : Int), .pointer (some ⟨b0, 0, none⟩), .pointer (some ⟨b1, 0, none⟩)] W fun e W' => e = .returned (.bool (p s)) ∧ Below W.heap.size W W') :
    Calls Try.prog 20 #[.func (.func G) #[] #[.pointer (some ⟨b0, 0, none⟩), .pointer (some ⟨b1, 0, none⟩)]] w fun e w' => (∃ v, e = .returned v ∧ w'.ownsRow w.heap.size 3 1 v (lfold p (ordN 10)).length ((zs (lfold p (ordN 10))).map (Value.int .i64))) ∧ Below w.heap.size w w' := by
  have HCL := Lib.hid hcl
  clear hcl
  obtain ⟨i0, hin, hz0, hz1, hz2⟩ := info_parts infoInt
  refine (callsIn_wide (n := 8)).1 ?_
  refine callsIn_of_wp_marks Try.func20 rfl trivial ?_ rfl
  simp only [Try.ntmps20, List.size_toArray, List.length_cons, List.length_nil, Nat.reduceAdd, Nat.reduceSub, Array.replicate_succ, Array.replicate_zero, List.push_toArray, List.append_toArray, List.nil_append, List.cons_append]
  gi_wp2_with (refine ⟨trivial, ?_⟩; gi_at_call 35; refine (callsIn_wide.2 (sets_run _)).mono ?_; rintro e w' ⟨rfl, rfl⟩)
  have bF := (Boxed.new w 44 (Value.func (.func G) #[] #[.pointer (some ⟨b0, 0, none⟩), .pointer (some ⟨b1, 0, none⟩)])).alloc (.cells #[.slice none 0 0] 22)
  have bL := Boxed.new (w.alloc (.cells #[Value.func (.func G) #[] #[.pointer (some ⟨b0, 0, none⟩), .pointer (some ⟨b1, 0, none⟩)]] 44)) 22 (.slice none 0 0)
  simp only [World.size_alloc] at bL
  have hB0 : Below w.heap.size w ((w.alloc (.cells #[Value.func (.func G) #[] #[.pointer (some ⟨b0, 0, none⟩), .pointer (some ⟨b1, 0, none⟩)]] 44)).alloc (.cells #[.slice none 0 0] 22)) := balloc (balloc (bref w) _) _
  have hsz : ((w.alloc (.cells #[Value.func (.func G) #[] #[.pointer (some ⟨b0, 0, none⟩), .pointer (some ⟨b1, 0, none⟩)]] 44)).alloc (.cells #[.slice none 0 0] 22)).heap.size = w.heap.size + 2 := by simp
  obtain ⟨W0, hW0⟩ : ∃ W0, ((w.alloc (.cells #[Value.func (.func G) #[] #[.pointer (some ⟨b0, 0, none⟩), .pointer (some ⟨b1, 0, none⟩)]] 44)).alloc (.cells #[.slice none 0 0] 22)) = W0 := ⟨_, rfl⟩
  rw [hW0] at bF bL hB0 hsz ⊢
  clear hW0
  refine wpIn_rangeFunc_ownH rfl (by omega) (gf := 46) (lb := #[]) rfl trivial (enters_of Try.func46 (by kernel_rfl) rfl) (sets_all (Below w.heap.size) (8 - 1) (by omega) W0) belowK_t (belowK_b (by omega)) (Below.refl _ _) (fun _ => rfl)
    (fun pre W => SlI w p (Value.func (.func G) #[] #[.pointer (some ⟨b0, 0, none⟩), .pointer (some ⟨b1, 0, none⟩)]) pre W ∧ Below w.heap.size w W)
    (fun _ _ _ => False)
    ?own (fun _ _ _ _ _ hs _ _ => hs)
    ?start
    (fun x a' W => ∃ Bx, w.heap.size + 1 < Bx ∧ Boxed W Bx 3 (.int .i64 ((x.val : Nat) : Int)) ∧ a' = { tmps := #[(Value.func (.func G) #[] #[.pointer (some ⟨b0, 0, none⟩), .pointer (some ⟨b1, 0, none⟩)]), .pointer (some ⟨w.heap.size, 0, none⟩), .slice none 0 0, .pointer (some ⟨w.heap.size + 1, 0, none⟩), .pointer (some ⟨Bx, 0, none⟩), .func (.func 46) #[] #[], .int .i64 ((x.val : Nat) : Int), undef, undef, undef, undef, undef, undef, undef, undef, undef, undef, undef, undef, undef, undef], defers := [] })
    (fun x a' _ X Y row hs hg hr => by obtain ⟨Bx, h1, h2, h3⟩ := hs; exact ⟨Bx, h1, boxed_own Bx 3 (fun (_ : Unit) => Value.int .i64 ((x.val : Nat) : Int)) () X Y row h2 hg (fun r e => (hr r e).2), h3⟩)
    ?assign ?body ?done ?stop
  case own => exact OwnFrom.and (OwnFrom.and (Own.from (holdsRow_own w.heap.size (w.heap.size + 1) 22 3 1 (fun pre : List (Fin 1024) => (lfold p (pre.map (·.val))).length) (fun pre => (zs (lfold p (pre.map (·.val)))).map (Value.int .i64)) (fun _ _ => True)) _) (Own.from (boxed_own _ _ _) _)) (ownFrom_below (Nat.le_refl _) (by omega))
  case start => exact ⟨⟨⟨_, bL, World.ownsRow_nil _ _ _ _, trivial⟩, bF⟩, hB0⟩
  case assign =>
    rintro l pre x W K ⟨⟨⟨v, bv, hrow, _⟩, bF1⟩, hB1⟩ hK
    gi_wp2
    exact hK _ _ ((KeepsOthers.alloc _ _).from _) ((Below.refl _ W).alloc hB1.size _) ⟨⟨⟨v, bv.alloc _, hrow.alloc _, trivial⟩, bF1.alloc _⟩, hB1.alloc hB1.size _⟩ ⟨W.heap.size, bv.lt, Boxed.new W 3 _, rfl⟩
  case body =>
    rintro l pre x a' W hl ⟨r, hr⟩ ⟨⟨⟨v, bv, hrow, _⟩, bF1⟩, hB1⟩ ⟨Bx, hBx, bX, rfl⟩ hlt
    obtain ⟨s, hs⟩ := x
    have HSN := Lib.hid (show lfold p ((pre ++ [(⟨s, hs⟩ : Fin 1024)]).map (·.val)) = lstep p (lfold p (pre.map (·.val))) s from by rw [List.map_append]; exact lfold_snoc p _ s)
    have hLl := lfold_len p (pre.map (·.val)) []
    have HL1 := Lib.hid (show ∀ t ∈ lfold p (pre.map (·.val)), t < 1024 from fun t ht => by
      rcases lfold_sub p _ _ t ht with h | h
      · cases h
      · obtain ⟨y, _, rfl⟩ := List.mem_map.1 h
        exact y.isLt)
    rw [show (pre.map (·.val)).foldl (lstep p) [] = lfold p (pre.map (·.val)) from rfl, List.length_map] at hLl
    have HIK := Lib.hid (show ∀ L' W' v', lfold p ((pre ++ [(⟨s, hs⟩ : Fin 1024)]).map (·.val)) = L' → Boxed W' (w.heap.size + 1) 22 v' → W'.ownsRow w.heap.size 3 1 v' L'.length ((zs L').map (Value.int .i64)) → Boxed W' w.heap.size 44 (Value.func (.func G) #[] #[.pointer (some ⟨b0, 0, none⟩), .pointer (some ⟨b1, 0, none⟩)]) → SlI w p (Value.func (.func G) #[] #[.pointer (some ⟨b0, 0, none⟩), .pointer (some ⟨b1, 0, none⟩)]) (pre ++ [⟨s, hs⟩]) W' from by
      rintro L' W' v' rfl h1 h2 h3
      exact ⟨⟨v', h1, h2, trivial⟩, h3⟩)
    generalize lfold p (pre.map (·.val)) = L at *
    generalize lfold p ((pre ++ [(⟨s, hs⟩ : Fin 1024)]).map (·.val)) = L2 at *
    have hL2 : L.length ≤ 1025 := by simp at hLl; omega
    clear hLl
    obtain ⟨A, c, rfl⟩ := own_slice hrow
    have cF := bF1.cell
    have cX := bX.cell
    have cV := bv.cell
    have HR1 := Lib.hid (HCL.out s hs W hB1)
    rcases (show p s = false ∨ p s = true by cases p s <;> simp) with hq | hq
    · rw [hq] at HR1
      have HL2 := Lib.hid (show L2 = L from by rw [HSN.out]; unfold lstep; rw [hq]; rfl)
      clear hq
      gi_wp2
      refine ⟨trivial, ?_⟩
      refine (CallsIn.inRound l (callsIn_wide.2 HR1.out)).mono ?_
      rintro e w' ⟨rfl, hb⟩
      have HF := Lib.hid (show KeepsFrom W0.heap.size W w' ∧ Below w.heap.size W w' ∧ (SlI w p (Value.func (.func G) #[] #[.pointer (some ⟨b0, 0, none⟩), .pointer (some ⟨b1, 0, none⟩)]) (pre ++ [⟨s, hs⟩]) w' ∧ Below w.heap.size w w') from
        ⟨(KeepsOthers.of_grownBy (grown_below (r := none) hb) (by intro j o e; cases e)).from _, hb.mono hB1.size, HIK.out L w' _ HL2.out (bv.kept (grown_below (r := none) hb) (by intro e; cases e)) (own_belS hrow hb) (bF1.kept (grown_below (r := none) hb) (by intro e; cases e)), bstep hB1 hb⟩)
      clear hb hrow bv bF1 bX hB1
      gi_wp2
      refine ⟨trivial, ?_⟩
      gi_wp2
      exact HF.out
    · rw [hq] at HR1
      have HB1 := Lib.hid hB1
      have HBv := Lib.hid bv
      have HBF := Lib.hid bF1
      have HRow := Lib.hid hrow
      have HBX := Lib.hid bX
      gi_wp2
      refine ⟨trivial, ?_⟩
      refine (CallsIn.inRound l (callsIn_wide.2 HR1.out)).mono ?_
      rintro e w1 ⟨rfl, hb⟩
      have hg1 := grown_below (r := none) hb
      have bv1 := bv.kept hg1 (by intro e; cases e)
      have bF2 := bF1.kept hg1 (by intro e; cases e)
      have bX1 := bX.kept hg1 (by intro e; cases e)
      have hrow1 := own_belS hrow hb
      have cF1 := bF2.cell
      have cX1 := bX1.cell
      have cV1 := bv1.cell
      have HKO := Lib.hid (KeepsOthers.of_grownBy hg1 (by intro j o e; cases e))
      have HBW := Lib.hid (hb.mono hB1.size)
      have HB2 := Lib.hid (bstep hB1 hb)
      have HC := Lib.hid (containsG_run 37 Bx (fun t => subB t s) (fun b => w.heap.size ≤ b) (.slice A L.length c) L w1 enters_sl1 (by omega) (NodesAt.of_ownZ hrow1) (fun x hx W2 hb2 => sl1_run s x Bx hs (HL1.out x hx) W2 ((hb2.cell (cell_lt cX1)).trans cX1)))
      clear cF cX cV bv bF1 bX hrow hg1 hb hB1
      obtain ⟨q, hqq⟩ : ∃ q, L.any (fun t => subB t s) = q := ⟨_, rfl⟩
      have HL2 := Lib.hid (show L2 = if q = true then L else L ++ [s] from by rw [HSN.out]; unfold lstep; rw [hq, hqq]; cases q <;> rfl)
      rw [hqq] at HC
      clear hq hqq
      cases q
      · gi_wp2
        refine ⟨trivial, ?_⟩
        refine (CallsIn.inRound l (callsIn_wide.2 HC.out)).mono ?_
        rintro e w2 ⟨rfl, hb2⟩
        have hg2 := grown_below (r := none) hb2
        have bv2 := bv1.kept hg2 (by intro e; cases e)
        have bF3 := bF2.kept hg2 (by intro e; cases e)
        have bX2 := bX1.kept hg2 (by intro e; cases e)
        have hrow2 := own_belS hrow1 hb2
        have HB3 := Lib.hid (bstep HB2.out hb2)
        have HKO2 := Lib.hid (HKO.out.trans (KeepsOthers.of_grownBy hg2 (by intro j o e; cases e)))
        have HBW2 := Lib.hid (HBW.out.trans (hb2.mono HB2.out.size))
        have cX2 := bX2.cell
        have cV2 := bv2.cell
        have fV2 := bv2.frozen
        have hlb := HB3.out.size
        clear cF1 cX1 cV1 bv1 bF2 bX1 hrow1 hg2 hb2 HB1 HBv HBF HRow HBX
        gi_wp2_with (gi_at_builtin; refine wpListIn_append_own _ rfl _ _ 22 rfl w.heap.size 3 i0 (.int .i64 0) 1 8 Try.underlying22 hin hz0 hz1 hz2 rfl (by decide) _ _ _ rfl (hrow2.alloc _) ⟨w2.heap.size, 0, none⟩ 1 1 [.int .i64 (s : Int)] rfl rfl (cell_one_new _ _ _) (by simp [Value.oneCell']) (by unfold maxLen; omega) (by omega) (by simp; omega) ?_; intro v' w3 hown' hgrow _; obtain ⟨g', cap', rfl⟩ := ownsRow_succ hown'; obtain ⟨hv1, hv2, hr2, hk2, hbb2⟩ := bv2.appended (by decide) hrow2 hlb (by omega) hown' hgrow; have hc1 := hv1.cell; have hf1 := hv1.frozen)
        exact ⟨(HKO2.out.trans hk2).from _, HBW2.out.trans hbb2, HIK.out (L ++ [s]) _ _ (by simpa using HL2.out) hv2 (own_snocZ hr2) (((bF3.alloc _).kept hgrow (bF3.not_row (by decide) hrow2)).other (by omega) _), HB3.out.trans hbb2⟩
      · gi_wp2
        refine ⟨trivial, ?_⟩
        refine (CallsIn.inRound l (callsIn_wide.2 HC.out)).mono ?_
        rintro e w2 ⟨rfl, hb2⟩
        have hg2 := grown_below (r := none) hb2
        have HF := Lib.hid (show KeepsFrom W0.heap.size W w2 ∧ Below w.heap.size W w2 ∧ (SlI w p (Value.func (.func G) #[] #[.pointer (some ⟨b0, 0, none⟩), .pointer (some ⟨b1, 0, none⟩)]) (pre ++ [⟨s, hs⟩]) w2 ∧ Below w.heap.size w w2) from
          ⟨(HKO.out.trans (KeepsOthers.of_grownBy hg2 (by intro j o e; cases e))).from _, HBW.out.trans (hb2.mono HB2.out.size), HIK.out L w2 _ HL2.out (bv1.kept hg2 (by intro e; cases e)) (own_belS hrow1 hb2) (bF2.kept hg2 (by intro e; cases e)), bstep HB2.out hb2⟩)
        clear hb2 hg2 hrow1 bv1 bF2 bX1
        gi_wp2
        exact HF.out
  case done =>
    rintro D xs W hD hxs ⟨⟨⟨v, bv, hrow, _⟩, bF1⟩, hB1⟩ hK
    rw [hxs] at hrow
    have cV := bv.cell
    obtain ⟨A, c, rfl⟩ := own_slice hrow
    gi_wp2
    refine ⟨by simp, .inl ⟨_, _, rfl, run_takeDeferred hK, ?_⟩⟩
    exact ⟨_, results_tmp rfl _ _ _, ⟨_, rfl, ownsRow_putObj hrow _ hK rfl⟩, hB1.trans (belowK_b (w := w) (Nat.le_refl _) W D _ _ (by omega) hK rfl rfl)⟩
  case stop =>
    rintro D c pre W _ _ h _
    exact h.elim

end Go.Proofs.Ythbiopmfbnpmfaa
