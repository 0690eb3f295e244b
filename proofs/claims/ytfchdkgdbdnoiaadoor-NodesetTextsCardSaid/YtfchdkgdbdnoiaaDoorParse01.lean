/- The contract of nodeset.Parse on the text of a set. -/
import Derived.Test.YtfchdkgdbdnoiaaDoorTextMath
import Derived.Laws.IdiomStrings
namespace Go.Proofs.YtfchdkgdbdnoiaaDoor
set_option linter.unusedVariables false
set_option linter.unusedSimpArgs false
open Go.RowKit

theorem measT (i N : Nat) (h : i < N) : N - (intOf (Value.int .i64 ((i : Int) + 1))).toNat < N - (intOf (Value.int .i64 (i : Int))).toNat := by simp [intOf]; omega
theorem numT (i : Nat) : Value.int .i64 ((i : Int) + 1) = Value.int .i64 ((i + 1 : Nat) : Int) := rfl
theorem row_bytes (t : List UInt8) (cap k : Nat) (b : UInt8) (h : t[k]? = some b) : (bytesRow ⟨t.toArray⟩ cap)[k]? = some (.int .u8 (b.toNat : Int)) := by
  obtain ⟨hk, e⟩ := List.getElem?_eq_some_iff.1 h
  have h1 := bytesRow_at ⟨t.toArray⟩ cap k (by simpa using hk)
  rw [h1]
  simp [e]
theorem tbit_in {a n : Nat} {b : UInt8} (h : b.toNat = n + 48) (hn : n < 10) : tbit a b = a ||| 2 ^ n := by
  unfold tbit
  rw [if_pos (by omega), h, Nat.add_sub_cancel]
theorem tbit_out {a : Nat} {b : UInt8} (h : ¬ (48 ≤ b.toNat ∧ b.toNat ≤ 57)) : tbit a b = a := by
  unfold tbit
  rw [if_neg h]

set_option maxRecDepth 100000 in
set_option maxHeartbeats 4000000 in
theorem pparse_run (s : Nat) (hs : s < 1024) (w : World) :
    Calls Tryd.prog 4 #[.string ⟨(textN s).toArray⟩] w fun e w' => e = .returned (.tuple #[.int .i64 (s : Int), .int .i64 0]) ∧ Below w.heap.size w w' := by
  have HTX := Lib.hid (fun W => ptext_run s W hs)
  obtain ⟨htb, hlen⟩ := text_back s hs
  have HTB := Lib.hid htb
  have HTK := Lib.hid (fun k b h => tfold_take (t := textN s) (k := k) (b := b) h)
  have HLT := Lib.hid (fun k => tfold_lt ((textN s).take k) 0 (by omega))
  clear htb
  generalize textN s = t at *
  have hconv := run_bytes_of_string (P := Tryd.prog) w 9 32 5 ⟨t.toArray⟩ Tryd.underlying9 Tryd.underlying32 Tryd.underlying5
  generalize grownCap w (ByteArray.mk t.toArray).size 0 5 = cap at hconv
  have hsz : (ByteArray.mk t.toArray).size = t.length := by simp [ByteArray.size]
  rw [hsz] at hconv
  have HC := Lib.hid (row_bytes t cap)
  generalize bytesRow ⟨t.toArray⟩ cap = C at *
  have HW := Lib.hid (show ∀ k b, t[k]? = some b → (w.drew.alloc (.cells C 5 (C.size, C.size + 1))).cell? ⟨w.heap.size, k, none⟩ = some (.int .u8 (b.toNat : Int)) from fun k b h => by
    show (w.drew.alloc (.cells C 5 (C.size, C.size + 1))).cell? ⟨w.drew.heap.size, k, none⟩ = _
    rw [cell_of_row _ _ k _ _ (C.size, C.size + 1) (heap_alloc_new w.drew _)]
    exact HC.out k b h)
  have HB := Lib.hid (show Below w.heap.size w (w.drew.alloc (.cells C 5 (C.size, C.size + 1))) from balloc (bdrew (bref w)) _)
  go_enter Tryd.func4, Tryd.ntmps4
  go_wp2_with fail
  clear hconv hsz
  generalize hg : w.heap.size = g at *
  have HG := Lib.hid hg
  clear hg
  obtain ⟨T, hT⟩ : ∃ T, t.length = T := ⟨_, rfl⟩
  have HL := Lib.hid hT
  rw [hT] at hlen ⊢
  clear hT
  go_loopw [4, 10] (fun v u W => ∃ k a : Nat, k ≤ T ∧ v = .int .i64 (a : Int) ∧ u = .int .i64 k ∧ Hid (a = (t.take k).foldl tbit 0) ∧ Hid (∀ k b, t[k]? = some b → W.cell? ⟨g, k, none⟩ = some (.int .u8 (b.toNat : Int))) ∧ Hid (Below g w W)) (fun _ u _ => T - (intOf u).toNat)
  case atStart => exact ⟨0, 0, Nat.zero_le _, rfl, rfl, Lib.hid rfl, Lib.hid (fun k b h => HW.out k b h), Lib.hid HB.out⟩
  case round =>
    clear HW HB
    obtain ⟨k, a, hk, rfl, rfl, hA, hC, hB⟩ := hrel
    by_cases hlt : k < T
    · obtain ⟨b, hb⟩ : ∃ b, t[k]? = some b := ⟨t[k]'(by have := HL.out; omega), List.getElem?_eq_getElem _⟩
      have hcell := hC.out k b hb
      have HK := Lib.hid (HTK.out k b hb)
      rw [← hA.out] at HK
      have ha := HLT.out k
      rw [← hA.out] at ha
      have hb8 : b.toNat < 256 := b.toNat_lt
      by_cases hd : 48 ≤ b.toNat ∧ b.toNat ≤ 57
      · obtain ⟨d, hdd⟩ : ∃ d, b.toNat = d + 48 := ⟨b.toNat - 48, by omega⟩
        have HT := Lib.hid (tbit_in (a := a) hdd (by omega))
        rw [HT.out] at HK
        rw [hdd] at hcell
        have hd10 : d < 10 := by omega
        have HOR := Lib.hid (shl_or a d ha hd10)
        have e1 : (((d + 48 : Nat) : Int) - 48) = (d : Int) := by omega
        have e2 : IntKind.u8.wrap (d : Int) = (d : Int) := by rw [IntKind.wrap_u8]; omega
        clear hb hb8 hd hdd HT ha
        go_wp2_with fail
        rw [HOR.out]
        go_roundw
        case rel => exact ⟨k + 1, a ||| 2 ^ d, hlt, rfl, numT k, Lib.hid HK.out.symm, hC, hB⟩
        case measure => exact measT k T hlt
      · have HT := Lib.hid (tbit_out (a := a) hd)
        rw [HT.out] at HK
        generalize b.toNat = n at *
        rcases (show n < 48 ∨ (48 ≤ n ∧ 57 < n) by omega) with h1 | ⟨h1, h2⟩
        · clear hd hb HT
          go_wp2_with fail
          go_roundw
          case rel => exact ⟨k + 1, a, hlt, rfl, numT k, Lib.hid HK.out.symm, hC, hB⟩
          case measure => exact measT k T hlt
        · clear hd hb HT
          go_wp2_with fail
          go_roundw
          case rel => exact ⟨k + 1, a, hlt, rfl, numT k, Lib.hid HK.out.symm, hC, hB⟩
          case measure => exact measT k T hlt
    · obtain rfl : k = T := Nat.le_antisymm hk (Nat.not_lt.1 hlt)
      obtain rfl : a = s := by
        have h1 := hA.out
        rw [← HL.out, List.take_length] at h1
        rw [h1, HTB.out]
      clear hA hC
      go_wp2_with fail
      refine (HTX.out _).mono ?_
      rintro e W2 ⟨rfl, hb2⟩
      have HZ := Lib.hid (hB.out.trans (hb2.mono (by have := hB.out.size; have := HG.out; omega)))
      clear hb2
      go_wp2_with fail
      go_ret2
      rw [HG.out]
      exact ⟨rfl, HZ.out⟩
end Go.Proofs.YtfchdkgdbdnoiaaDoor
