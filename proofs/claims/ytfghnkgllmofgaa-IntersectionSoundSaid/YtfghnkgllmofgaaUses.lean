/- The set of the nodes of a trust, and the contracts of Uses: of the program's and of the reference's. -/
import Derived.Test.YtfghnkgllmofgaaSize2
namespace Go.Proofs.Ytfghnkgllmofgaa
set_option linter.unusedVariables false
set_option linter.unusedSimpArgs false
open Go.RowKit

def bitS (s : Nat) (k : Int) : Nat := if 0 ≤ k ∧ k < 10 then s ||| 2 ^ k.toNat else s

def nodesS (ns : List Int) : Nat := ns.foldl bitS 0

def usesT : Nat → Tree → Nat
  | 0, _ => 0
  | d + 1, .mk _ ns is => (is.map (usesT d)).foldl (· ||| ·) (nodesS ns)

theorem bitS_lt {s : Nat} {k : Int} (h : s < 1024) : bitS s k < 1024 := by
  unfold bitS
  split
  · rename_i hk
    exact Nat.or_lt_two_pow (n := 10) h (Nat.pow_lt_pow_right (by omega) (by omega))
  · exact h

theorem foldBit_lt : ∀ (ns : List Int) (s : Nat), s < 1024 → ns.foldl bitS s < 1024
  | [], s, h => h
  | k :: ns, s, h => foldBit_lt ns _ (bitS_lt h)

theorem nodesS_lt (ns : List Int) : nodesS ns < 1024 := foldBit_lt ns 0 (by omega)

theorem foldOr_lt : ∀ (l : List Nat) (s : Nat), s < 1024 → (∀ x ∈ l, x < 1024) → l.foldl (· ||| ·) s < 1024
  | [], s, h, _ => h
  | k :: l, s, h, hl => foldOr_lt l _ (Nat.or_lt_two_pow (n := 10) h (hl k List.mem_cons_self)) (fun x hx => hl x (List.mem_cons_of_mem _ hx))

theorem usesT_lt : ∀ (d : Nat) (T : Tree), usesT d T < 1024
  | 0, _ => by unfold usesT; omega
  | d + 1, .mk _ ns is => foldOr_lt _ _ (nodesS_lt ns) (fun x hx => by obtain ⟨T, _, rfl⟩ := List.mem_map.1 hx; exact usesT_lt d T)

theorem foldl_take_succ {α β : Type} (f : β → α → β) (b : β) {l : List α} {k : Nat} {x : α} (h : l[k]? = some x) : (l.take (k + 1)).foldl f b = f ((l.take k).foldl f b) x := by
  rw [List.take_add_one, h]; simp

theorem i64_or_nat (a b : Nat) (ha : a < 9223372036854775808) (hb : b < 9223372036854775808) : bits .or .i64 (a : Int) (b : Int) = ((a ||| b : Nat) : Int) := by
  have hx : a ||| b < 2 ^ 63 := Nat.or_lt_two_pow (by omega) (by omega)
  show IntKind.i64.wrap ((BitVec.ofInt 64 (a : Int) ||| BitVec.ofInt 64 (b : Int)).toNat : Int) = _
  rw [BitVec.toNat_or, ofInt_i64 a ha, ofInt_i64 b hb, IntKind.wrap_i64]
  omega

theorem shl_or (s K : Nat) (hs : s < 1024) (hK : K < 10) : bits .or .i64 (s : Int) (wrap64 (2 ^ K)) = ((s ||| 2 ^ K : Nat) : Int) := by
  have all : ∀ K : Fin 10, wrap64 (2 ^ K.val) = ((2 ^ K.val : Nat) : Int) := by decide +kernel
  have e : wrap64 (2 ^ K) = ((2 ^ K : Nat) : Int) := all ⟨K, hK⟩
  rw [e]
  exact i64_or_nat s (2 ^ K) (by omega) (Nat.lt_of_le_of_lt (Nat.pow_le_pow_right (by omega) (show K ≤ 10 by omega)) (by omega))

set_option maxHeartbeats 4000000 in
theorem ruses_run (P : Nat → Prop) : ∀ (d : Nat) (T : Tree) (v0 v1 v2 : Value) (w : World), TAt P d w v0 v1 v2 T →
    Calls Try.prog 42 #[.agg #[v0, v1, v2]] w fun e w' => e = .returned (.int .i64 (usesT d T)) ∧ Below w.heap.size w w' := by
  intro d
  induction d with
  | zero => intro T v0 v1 v2 w h; exact h.elim
  | succ d ih =>
    intro T v0 v1 v2 w h
    obtain ⟨thr, ns, is⟩ := T
    obtain ⟨A, c, B, c', rfl, rfl, rfl, hn, hi, hbx⟩ := h.boxed
    have HBX := Lib.hid hbx
    have HB1 := Lib.hid (balloc (bref w) (.cells #[.int .i64 thr, .slice A ns.length c, .slice B is.length c'] 49))
    have IH := Lib.hid ih
    have HSM := Lib.hid (show usesT (d + 1) (.mk thr ns is) = (is.map (usesT d)).foldl (· ||| ·) (nodesS ns) from rfl)
    clear h hbx ih
    go_enter Try.func42, Try.ntmps42
    go_upto_region 2 with fail
    generalize w.alloc (.cells #[.int .i64 thr, .slice A ns.length c, .slice B is.length c'] 49) = W1 at *
    generalize hg : w.heap.size = g at *
    have hgw := Lib.hid hg
    clear hg
    have c0 := HBX.out.c1
    have c1 := HBX.out.c2
    go_wp2_with fail
    go_loop [3, 11] (fun u t => ∃ (k s : Nat), k ≤ ns.length ∧ t = .int .i64 k ∧ u = .int .i64 (s : Int) ∧ Hid (s = (ns.take k).foldl bitS 0)) (fun _ t => ns.length - (intOf t).toNat)
    case atStart => exact ⟨0, 0, by omega, rfl, rfl, Lib.hid (by simp)⟩
    case round =>
      obtain ⟨k, s, hk, rfl, rfl, hs⟩ := hrel
      have hs1 : s < 1024 := by rw [hs.out]; exact foldBit_lt _ 0 (by omega)
      by_cases hlt : k < ns.length
      · obtain ⟨b, off, rfl, hc⟩ := HBX.out.nodes k hlt
        have hs' := foldl_take_succ bitS 0 (l := ns) (k := k) (x := ns.getD k 0) (by rw [List.getD_eq_getElem?_getD, List.getElem?_eq_getElem hlt]; rfl)
        rw [← hs.out] at hs'
        generalize ns.getD k 0 = x at *
        by_cases h0 : 0 ≤ x
        · by_cases h10 : x < 10
          · obtain ⟨K, rfl⟩ := Int.eq_ofNat_of_zero_le h0
            have hK : K < 10 := by omega
            have HS := Lib.hid (show (ns.take (k + 1)).foldl bitS 0 = s ||| 2 ^ K by rw [hs']; unfold bitS; rw [if_pos ⟨h0, h10⟩]; rfl)
            have HOR := Lib.hid (shl_or s K (by omega) hK)
            clear hs'
            go_wp2_with fail
            rw [HOR.out]
            go_round
            case rel => exact ⟨k + 1, _, by omega, by go_num, rfl, Lib.hid HS.out.symm⟩
            case measure => simp [intOf]; omega
          · have HS := Lib.hid (show (ns.take (k + 1)).foldl bitS 0 = s by rw [hs']; unfold bitS; rw [if_neg (by omega)])
            clear hs'
            go_wp2_with fail
            go_round
            case rel => exact ⟨k + 1, s, by omega, by go_num, rfl, Lib.hid HS.out.symm⟩
            case measure => simp [intOf]; omega
        · have HS := Lib.hid (show (ns.take (k + 1)).foldl bitS 0 = s by rw [hs']; unfold bitS; rw [if_neg (by omega)])
          clear hs'
          go_wp2_with fail
          go_round
          case rel => exact ⟨k + 1, s, by omega, by go_num, rfl, Lib.hid HS.out.symm⟩
          case measure => simp [intOf]; omega
      · obtain rfl : k = ns.length := by omega
        have hN := Lib.hid (show s = nodesS ns by rw [hs.out, List.take_length]; rfl)
        go_wp2_with fail
        go_loopw [3, 29] (fun u t wr => ∃ (k m : Nat), k ≤ is.length ∧ t = .int .i64 k ∧ u = .int .i64 (m : Int) ∧ Hid (m = ((is.map (usesT d)).take k).foldl (· ||| ·) (nodesS ns)) ∧ Hid (Below W1.heap.size W1 wr)) (fun _ t _ => is.length - (intOf t).toNat)
        case atStart => exact ⟨0, s, by omega, rfl, rfl, Lib.hid (by simpa using hN.out), Lib.hid (bref _)⟩
        case round =>
          clear hs hs1
          obtain ⟨k, m, hk, rfl, rfl, hm, hBr⟩ := hrel
          have hm1 : m < 1024 := by
            rw [hm.out]
            exact foldOr_lt _ _ (nodesS_lt ns) (fun x hx => by obtain ⟨T, _, rfl⟩ := List.mem_map.1 (List.mem_of_mem_take hx); exact usesT_lt d T)
          by_cases hlt : k < is.length
          · obtain ⟨T, hT⟩ : ∃ T, is[k]? = some T := ⟨_, List.getElem?_eq_getElem hlt⟩
            obtain ⟨b, off, t', A', n', ca, B', m', cb, rfl, hlb, e0, e1, e2, hTk⟩ := (HBX.out.below hBr.out).inner k T hT
            have hs' := foldl_take_succ (· ||| ·) (nodesS ns) (l := is.map (usesT d)) (k := k) (x := usesT d T) (by rw [List.getElem?_map, hT]; rfl)
            rw [← hm.out] at hs'
            have HS := Lib.hid hs'
            have hul := usesT_lt d T
            have hTr := Lib.hid (hTk.below (balloc (bref wr) (.cells #[.int .i64 t', .slice A' n' ca, .slice B' m' cb] 49)))
            have hBa := Lib.hid (balloc hBr.out (.cells #[.int .i64 t', .slice A' n' ca, .slice B' m' cb] 49))
            clear hT hTk hs'
            generalize hz : usesT d T = z at *
            have HZ := Lib.hid hz
            have HOR := Lib.hid (i64_or_nat m z (by omega) (by omega))
            clear hz
            go_wp2_with fail
            refine (IH.out T _ _ _ _ hTr.out).mono ?_
            rintro e w2 ⟨rfl, hb2⟩
            rw [HZ.out]
            have hB2 := Lib.hid (bstep hBa.out hb2)
            clear hb2
            go_wp2_with fail
            rw [HOR.out]
            go_roundw
            case rel => exact ⟨k + 1, _, by omega, by go_num, rfl, Lib.hid HS.out.symm, hB2⟩
            case measure => simp [intOf]; omega
          · obtain rfl : k = is.length := by omega
            have hfull : ((is.map (usesT d)).take is.length) = (is.map (usesT d)) := by
              rw [show is.length = (is.map (usesT d)).length by simp, List.take_length]
            have HF := Lib.hid (show usesT (d + 1) (.mk thr ns is) = m by rw [HSM.out, hm.out, hfull])
            clear hfull
            go_wp2_with fail
            go_ret
            exact ⟨by rw [HF.out]; rfl, by have h1 := HB1.out; rw [← hgw.out] at h1; exact bstep h1 hBr.out⟩

set_option maxHeartbeats 4000000 in
theorem puses_run (P : Nat → Prop) : ∀ (d : Nat) (T : Tree) (v0 v1 v2 : Value) (w : World), TAt P d w v0 v1 v2 T →
    Calls Try.prog 77 #[.agg #[v0, v1, v2]] w fun e w' => e = .returned (.int .i64 (usesT d T)) ∧ Below w.heap.size w w' := by
  intro d
  induction d with
  | zero => intro T v0 v1 v2 w h; exact h.elim
  | succ d ih =>
    intro T v0 v1 v2 w h
    obtain ⟨thr, ns, is⟩ := T
    obtain ⟨A, c, B, c', rfl, rfl, rfl, hn, hi, hbx⟩ := h.boxed
    have HBX := Lib.hid hbx
    have HB1 := Lib.hid (balloc (bref w) (.cells #[.int .i64 thr, .slice A ns.length c, .slice B is.length c'] 49))
    have IH := Lib.hid ih
    have HSM := Lib.hid (show usesT (d + 1) (.mk thr ns is) = (is.map (usesT d)).foldl (· ||| ·) (nodesS ns) from rfl)
    clear h hbx ih
    go_enter Try.func77, Try.ntmps77
    go_upto_region 2 with fail
    generalize w.alloc (.cells #[.int .i64 thr, .slice A ns.length c, .slice B is.length c'] 49) = W1 at *
    generalize hg : w.heap.size = g at *
    have hgw := Lib.hid hg
    clear hg
    have c0 := HBX.out.c1
    have c1 := HBX.out.c2
    go_wp2_with fail
    go_loop [3, 11] (fun u t => ∃ (k s : Nat), k ≤ ns.length ∧ t = .int .i64 k ∧ u = .int .i64 (s : Int) ∧ Hid (s = (ns.take k).foldl bitS 0)) (fun _ t => ns.length - (intOf t).toNat)
    case atStart => exact ⟨0, 0, by omega, rfl, rfl, Lib.hid (by simp)⟩
    case round =>
      obtain ⟨k, s, hk, rfl, rfl, hs⟩ := hrel
      have hs1 : s < 1024 := by rw [hs.out]; exact foldBit_lt _ 0 (by omega)
      by_cases hlt : k < ns.length
      · obtain ⟨b, off, rfl, hc⟩ := HBX.out.nodes k hlt
        have hs' := foldl_take_succ bitS 0 (l := ns) (k := k) (x := ns.getD k 0) (by rw [List.getD_eq_getElem?_getD, List.getElem?_eq_getElem hlt]; rfl)
        rw [← hs.out] at hs'
        generalize ns.getD k 0 = x at *
        by_cases h0 : 0 ≤ x
        · by_cases h10 : x < 10
          · obtain ⟨K, rfl⟩ := Int.eq_ofNat_of_zero_le h0
            have hK : K < 10 := by omega
            have HS := Lib.hid (show (ns.take (k + 1)).foldl bitS 0 = s ||| 2 ^ K by rw [hs']; unfold bitS; rw [if_pos ⟨h0, h10⟩]; rfl)
            have HOR := Lib.hid (shl_or s K (by omega) hK)
            clear hs'
            go_wp2_with fail
            rw [HOR.out]
            go_round
            case rel => exact ⟨k + 1, _, by omega, by go_num, rfl, Lib.hid HS.out.symm⟩
            case measure => simp [intOf]; omega
          · have HS := Lib.hid (show (ns.take (k + 1)).foldl bitS 0 = s by rw [hs']; unfold bitS; rw [if_neg (by omega)])
            clear hs'
            go_wp2_with fail
            go_round
            case rel => exact ⟨k + 1, s, by omega, by go_num, rfl, Lib.hid HS.out.symm⟩
            case measure => simp [intOf]; omega
        · have HS := Lib.hid (show (ns.take (k + 1)).foldl bitS 0 = s by rw [hs']; unfold bitS; rw [if_neg (by omega)])
          clear hs'
          go_wp2_with fail
          go_round
          case rel => exact ⟨k + 1, s, by omega, by go_num, rfl, Lib.hid HS.out.symm⟩
          case measure => simp [intOf]; omega
      · obtain rfl : k = ns.length := by omega
        have hN := Lib.hid (show s = nodesS ns by rw [hs.out, List.take_length]; rfl)
        go_wp2_with fail
        go_loopw [3, 29] (fun u t wr => ∃ (k m : Nat), k ≤ is.length ∧ t = .int .i64 k ∧ u = .int .i64 (m : Int) ∧ Hid (m = ((is.map (usesT d)).take k).foldl (· ||| ·) (nodesS ns)) ∧ Hid (Below W1.heap.size W1 wr)) (fun _ t _ => is.length - (intOf t).toNat)
        case atStart => exact ⟨0, s, by omega, rfl, rfl, Lib.hid (by simpa using hN.out), Lib.hid (bref _)⟩
        case round =>
          clear hs hs1
          obtain ⟨k, m, hk, rfl, rfl, hm, hBr⟩ := hrel
          have hm1 : m < 1024 := by
            rw [hm.out]
            exact foldOr_lt _ _ (nodesS_lt ns) (fun x hx => by obtain ⟨T, _, rfl⟩ := List.mem_map.1 (List.mem_of_mem_take hx); exact usesT_lt d T)
          by_cases hlt : k < is.length
          · obtain ⟨T, hT⟩ : ∃ T, is[k]? = some T := ⟨_, List.getElem?_eq_getElem hlt⟩
            obtain ⟨b, off, t', A', n', ca, B', m', cb, rfl, hlb, e0, e1, e2, hTk⟩ := (HBX.out.below hBr.out).inner k T hT
            have hs' := foldl_take_succ (· ||| ·) (nodesS ns) (l := is.map (usesT d)) (k := k) (x := usesT d T) (by rw [List.getElem?_map, hT]; rfl)
            rw [← hm.out] at hs'
            have HS := Lib.hid hs'
            have hul := usesT_lt d T
            have hTr := Lib.hid (hTk.below (balloc (bref wr) (.cells #[.int .i64 t', .slice A' n' ca, .slice B' m' cb] 49)))
            have hBa := Lib.hid (balloc hBr.out (.cells #[.int .i64 t', .slice A' n' ca, .slice B' m' cb] 49))
            clear hT hTk hs'
            generalize hz : usesT d T = z at *
            have HZ := Lib.hid hz
            have HOR := Lib.hid (i64_or_nat m z (by omega) (by omega))
            clear hz
            go_wp2_with fail
            refine (IH.out T _ _ _ _ hTr.out).mono ?_
            rintro e w2 ⟨rfl, hb2⟩
            rw [HZ.out]
            have hB2 := Lib.hid (bstep hBa.out hb2)
            clear hb2
            go_wp2_with fail
            rw [HOR.out]
            go_roundw
            case rel => exact ⟨k + 1, _, by omega, by go_num, rfl, Lib.hid HS.out.symm, hB2⟩
            case measure => simp [intOf]; omega
          · obtain rfl : k = is.length := by omega
            have hfull : ((is.map (usesT d)).take is.length) = (is.map (usesT d)) := by
              rw [show is.length = (is.map (usesT d)).length by simp, List.take_length]
            have HF := Lib.hid (show usesT (d + 1) (.mk thr ns is) = m by rw [HSM.out, hm.out, hfull])
            clear hfull
            go_wp2_with fail
            go_ret
            exact ⟨by rw [HF.out]; rfl, by have h1 := HB1.out; rw [← hgw.out] at h1; exact bstep h1 hBr.out⟩

end Go.Proofs.Ytfghnkgllmofgaa
