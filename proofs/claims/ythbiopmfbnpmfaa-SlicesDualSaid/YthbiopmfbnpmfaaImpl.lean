/- slices.first over all sets (a range over a function), where no set is found. -/
import Derived.Test.YthbiopmfbnpmfaaB2
import Derived.RangeFuncFrom
import Derived.RangeFuncLeaves
import Derived.RangeFuncNested
import Derived.RangeFuncBound
import Derived.RangeFuncCalls
import Derived.Shelf.Abstract
import Derived.WalkKit
import Derived.OwnWalkIn
import Derived.TacticsInMore
import Derived.LoopNIn
import Derived.LoopIn
namespace Go.Proofs.Ythbiopmfbnpmfaa
set_option linter.unusedVariables false
set_option linter.unusedSimpArgs false
open Go.RowKit Go.Shelf
attribute [local go_sem] Oper.semAt_some

set_option maxHeartbeats 400000 in
theorem sets_run (w : World) : Calls Try.prog 35 #[] w fun e w' => e = .returned (.func (.func 46) #[] #[]) ∧ w' = w := by
  go_enter Try.func35, Try.ntmps35
  go_wp2_with fail
  go_ret
  exact ⟨rfl, rfl⟩

theorem fr_of {W : World} {b o : Nat} {cs : Array Value} {t : TypeId} (h : W.heap[b]? = some (.cells cs t (0, 0))) : W.frozen? ⟨b, o, none⟩ = false := by simp [World.frozen?, h]

def boolS (b : Bool) (s : Nat) : Nat := if b then 20001 - keyN s else 0

set_option maxRecDepth 100000 in
set_option maxHeartbeats 4000000 in
/-- The iterator over all sets, for every loop body. -/
theorem sets_stops (Kp : World → World → Prop) (n : Nat) (hn : 2 ≤ n) (w : World) :
    SeqStopsK Fence.wide n Try.prog 46 #[] (fun x : Fin 1024 => #[Value.int .i64 ((x.val : Nat) : Int)]) Kp (fun _ => True) (fun _ => True) 1025 w := fun l J Jx W hW hJ hJx hY h0 => by
  refine callsIn_of_wp Try.func46 rfl trivial ?_ rfl
  simp only [Try.ntmps46, List.size_toArray, List.length_cons, List.length_nil, Nat.reduceAdd, Nat.reduceSub, Array.replicate_succ, Array.replicate_zero, List.push_toArray, List.append_toArray, List.nil_append, List.cons_append]
  gi_wp2
  gi_loopw [2, 3] (fun sv kv wr => ∃ (s : Nat) (ok : Bool) (pre : List (Fin 1024)), sv = .int .i64 (s : Int) ∧ kv = .bool ok ∧ s < 1024 ∧ (ok = true → (ordN 10)[pre.length]? = some s) ∧ J pre wr) (fun sv kv _ => match kv with | .bool b => boolS b (intOf sv).toNat | _ => 0)
  case atStart => exact ⟨0, true, [], rfl, rfl, by omega, fun _ => ord_zero _, h0⟩
  case round =>
    obtain ⟨s, ok, pre, rfl, rfl, hs, hT, hJs⟩ := hrel
    cases ok
    · gi_wp2
      refine ⟨fun _ h => (by cases h), ?_⟩
      gi_wp2
      go_end0
      exact ⟨⟨_, rfl⟩, .inl ⟨pre, trivial, hJs⟩⟩
    · have hi := hT rfl
      have hlen : pre.length < 1024 := by
        have h := (List.getElem?_eq_some_iff.1 hi).1
        rw [ord_len] at h; exact h
      obtain ⟨fn, tmps, assign, body, hy, hR⟩ := hY pre ⟨s, hs⟩ wr hJs (by omega)
      dsimp only at hy
      have HI := Lib.hid hi
      have HR := Lib.hid hR
      clear hi hT hR
      gi_wp2
      refine ⟨fun _ => by omega, ?_⟩
      refine HR.out.mono ?_
      rintro e W3 (⟨rfl, hJ3, hk3⟩ | ⟨rfl, hJx3⟩)
      · have hst := ord_step 10 (by omega) pre.length s HI.out
        have HN := Lib.hid (show Calls Try.prog 47 #[.int .i64 (s : Int), .int .i64 10] W3 (fun e w' => e = nextR 10 s ∧ W3 = w') from pnext_run s 10 (by omega) (by omega) W3)
        clear hy
        rcases Nat.lt_or_ge (nextN 10 s) (2 ^ 10) with hnx | hnx
        · have HE := Lib.hid (show nextR 10 s = .returned (.tuple #[.int .i64 (nextN 10 s : Int), .bool true]) by
            unfold nextR; rw [if_neg (show ¬ 2 ^ 10 ≤ nextN 10 s by omega), decide_eq_false (show ¬ 2 ^ 10 ≤ nextN 10 s by omega)]; rfl)
          have HK := Lib.hid (keyN_next 10 (by omega) s (by omega) hnx)
          have HKL := Lib.hid (keyN_lt _ (show nextN 10 s < 1024 by omega))
          have HST := Lib.hid (hst.1 hnx)
          have HNL := Lib.hid (show nextN 10 s < 1024 by omega)
          rw [HE.out] at HN
          clear hst hnx
          generalize nextN 10 s = sn at *
          gi_wp2
          refine ⟨trivial, fun _ => by omega, ?_⟩
          refine (callsIn_wide.2 HN.out).mono ?_
          rintro e w' ⟨rfl, rfl⟩
          gi_wp2
          go_roundw
          case rel => exact ⟨sn, true, pre ++ [⟨s, hs⟩], rfl, rfl, HNL.out, fun _ => by rw [List.length_append]; exact HST.out, hJ3⟩
          case measure =>
            have h1 := HK.out
            have h2 := HKL.out
            show 20001 - keyN ((sn : Int)).toNat < 20001 - keyN ((s : Int)).toNat
            rw [Int.toNat_natCast, Int.toNat_natCast]
            omega
        · have HE := Lib.hid (show nextR 10 s = .returned (.tuple #[.int .i64 ((0 : Nat) : Int), .bool false]) by
            unfold nextR; rw [if_pos (show 2 ^ 10 ≤ nextN 10 s by omega), decide_eq_true (show 2 ^ 10 ≤ nextN 10 s by omega)]; rfl)
          have HKL := Lib.hid (keyN_lt s hs)
          rw [HE.out] at HN
          clear hst hnx
          gi_wp2
          refine ⟨trivial, fun _ => by omega, ?_⟩
          refine (callsIn_wide.2 HN.out).mono ?_
          rintro e w' ⟨rfl, rfl⟩
          gi_wp2
          go_roundw
          case rel => exact ⟨0, false, pre ++ [⟨s, hs⟩], rfl, rfl, by omega, (fun h => by cases h), hJ3⟩
          case measure =>
            have h2 := HKL.out
            show 0 < 20001 - keyN ((s : Int)).toNat
            rw [Int.toNat_natCast]
            omega
      · gi_wp2
        go_end0
        exact ⟨⟨_, rfl⟩, .inr ⟨pre ++ [⟨s, hs⟩], trivial, hJx3⟩⟩

end Go.Proofs.Ythbiopmfbnpmfaa
