/- What the laws of this seat share: part 3. -/
import Derived.Test.YtcngpfffhjbiaaaDoorBase2
import Derived.Shelf.Strconv.Itoa0
import Derived.Shelf.Strconv.Itoa1
import Derived.Shelf.LaysM
import Derived.Shelf.Strconv.Itoa2
import Derived.Shelf.Strconv.Itoa3
import Derived.Test.YtcngpfffhjbiaaaDoorProg

namespace Go.Proofs
open Go.Shelf
def Tryd.lays243_ren : Go.Shelf.Ren := ⟨fun | 243 => 56 | 246 => 57 | 283 => 58 | 284 => 59 | 285 => 60 | 286 => 61 | 129 => 63 | 317 => 62 | 318 => 64 | 319 => 65 | 320 => 66 | 337 => 67 | 338 => 68 | n => n, fun | 3 => 3 | 9 => 9 | 2 => 2 | 4 => 4 | 171 => 82 | 0 => 0 | 53 => 83 | 37 => 86 | 5 => 5 | 173 => 87 | 212 => 90 | 51 => 91 | 20 => 20 | 213 => 92 | 46 => 93 | 232 => 96 | 233 => 97 | n => n, fun | 17 => 0 | 18 => 1 | 19 => 2 | n => n⟩
theorem Tryd.lays243 : Go.Proofs.Lays.n243 Tryd.prog Tryd.lays243_ren := {
  mixed := by kernel_rfl
  f129 := Tryd.func63.trans (congrArg some (by kernel_rfl))
  f243 := Tryd.func56.trans (congrArg some (by kernel_rfl))
  f246 := Tryd.func57.trans (congrArg some (by kernel_rfl))
  f283 := Tryd.func58.trans (congrArg some (by kernel_rfl))
  f284 := Tryd.func59.trans (congrArg some (by kernel_rfl))
  f285 := Tryd.func60.trans (congrArg some (by kernel_rfl))
  f286 := Tryd.func61.trans (congrArg some (by kernel_rfl))
  f317 := Tryd.func62.trans (congrArg some (by kernel_rfl))
  f318 := Tryd.func64.trans (congrArg some (by kernel_rfl))
  f319 := Tryd.func65.trans (congrArg some (by kernel_rfl))
  f320 := Tryd.func66.trans (congrArg some (by kernel_rfl))
  f337 := Tryd.func67.trans (congrArg some (by kernel_rfl))
  f338 := Tryd.func68.trans (congrArg some (by kernel_rfl))
  t0 := Tryd.underlying0
  a0 := Tryd.isAgg0
  z0 := Tryd.sizeOf0
  v0 := Tryd.zeroValue0
  t2 := Tryd.underlying2
  a2 := Tryd.isAgg2
  z2 := Tryd.sizeOf2
  v2 := Tryd.zeroValue2
  t3 := Tryd.underlying3
  a3 := Tryd.isAgg3
  z3 := Tryd.sizeOf3
  v3 := Tryd.zeroValue3
  t4 := Tryd.underlying4
  a4 := Tryd.isAgg4
  z4 := Tryd.sizeOf4
  v4 := Tryd.zeroValue4
  t5 := Tryd.underlying5
  a5 := Tryd.isAgg5
  z5 := Tryd.sizeOf5
  v5 := Tryd.zeroValue5
  t9 := Tryd.underlying9
  a9 := Tryd.isAgg9
  z9 := Tryd.sizeOf9
  v9 := Tryd.zeroValue9
  t20 := Tryd.underlying20
  a20 := Tryd.isAgg20
  z20 := Tryd.sizeOf20
  v20 := Tryd.zeroValue20
  t37 := Tryd.underlying86
  a37 := Tryd.isAgg86
  z37 := Tryd.sizeOf86
  v37 := Tryd.zeroValue86
  t46 := Tryd.underlying93
  a46 := Tryd.isAgg93
  z46 := Tryd.sizeOf93
  v46 := Tryd.zeroValue93
  t51 := Tryd.underlying91
  a51 := Tryd.isAgg91
  z51 := Tryd.sizeOf91
  v51 := Tryd.zeroValue91
  t53 := Tryd.underlying83
  a53 := Tryd.isAgg83
  z53 := Tryd.sizeOf83
  v53 := Tryd.zeroValue83
  t171 := Tryd.underlying82
  a171 := Tryd.isAgg82
  z171 := Tryd.sizeOf82
  v171 := Tryd.zeroValue82
  t173 := Tryd.underlying87
  a173 := Tryd.isAgg87
  z173 := Tryd.sizeOf87
  v173 := Tryd.zeroValue87
  t212 := Tryd.underlying90
  a212 := Tryd.isAgg90
  z212 := Tryd.sizeOf90
  v212 := Tryd.zeroValue90
  t213 := Tryd.underlying92
  a213 := Tryd.isAgg92
  z213 := Tryd.sizeOf92
  t232 := Tryd.underlying96
  a232 := Tryd.isAgg96
  z232 := Tryd.sizeOf96
  v232 := Tryd.zeroValue96
  t233 := Tryd.underlying97
  a233 := Tryd.isAgg97
  z233 := Tryd.sizeOf97
  v233 := Tryd.zeroValue97
  g17 := by kernel_rfl
  g18 := by kernel_rfl
  g19 := by kernel_rfl }
open Go.RowKit Go.Sort Go.Lib in
/-- THE ROAD WITHOUT THE TABLE: 0 <= i < 100. (LAID: no walk: one application.) -/
theorem Tryd.internal_strconv_Itoa_small (i : Nat) (hi : i < 100) (w : World) :
    Calls Tryd.prog 56 #[.int .i64 i] w fun e w' => e = .returned (.string ⟨(Lib.decDigits i).toArray⟩) ∧ w' = w := Any.internal_strconv_Itoa_small Tryd.lays243 i hi w
def Tryd.lays171_ren : Go.Shelf.Ren := ⟨fun | 171 => 55 | 243 => 56 | 246 => 57 | 283 => 58 | 284 => 59 | 285 => 60 | 286 => 61 | 129 => 63 | 317 => 62 | 318 => 64 | 319 => 65 | 320 => 66 | 337 => 67 | 338 => 68 | n => n, fun | 3 => 3 | 9 => 9 | 2 => 2 | 4 => 4 | 171 => 82 | 0 => 0 | 53 => 83 | 37 => 86 | 5 => 5 | 173 => 87 | 212 => 90 | 51 => 91 | 20 => 20 | 213 => 92 | 46 => 93 | 232 => 96 | 233 => 97 | n => n, fun | 17 => 0 | 18 => 1 | 19 => 2 | n => n⟩
theorem Tryd.lays171 : Go.Proofs.Lays.n171 Tryd.prog Tryd.lays171_ren := {
  mixed := by kernel_rfl
  f129 := Tryd.func63.trans (congrArg some (by kernel_rfl))
  f171 := Tryd.func55.trans (congrArg some (by kernel_rfl))
  f243 := Tryd.func56.trans (congrArg some (by kernel_rfl))
  f246 := Tryd.func57.trans (congrArg some (by kernel_rfl))
  f283 := Tryd.func58.trans (congrArg some (by kernel_rfl))
  f284 := Tryd.func59.trans (congrArg some (by kernel_rfl))
  f285 := Tryd.func60.trans (congrArg some (by kernel_rfl))
  f286 := Tryd.func61.trans (congrArg some (by kernel_rfl))
  f317 := Tryd.func62.trans (congrArg some (by kernel_rfl))
  f318 := Tryd.func64.trans (congrArg some (by kernel_rfl))
  f319 := Tryd.func65.trans (congrArg some (by kernel_rfl))
  f320 := Tryd.func66.trans (congrArg some (by kernel_rfl))
  f337 := Tryd.func67.trans (congrArg some (by kernel_rfl))
  f338 := Tryd.func68.trans (congrArg some (by kernel_rfl))
  t0 := Tryd.underlying0
  a0 := Tryd.isAgg0
  z0 := Tryd.sizeOf0
  v0 := Tryd.zeroValue0
  t2 := Tryd.underlying2
  a2 := Tryd.isAgg2
  z2 := Tryd.sizeOf2
  v2 := Tryd.zeroValue2
  t3 := Tryd.underlying3
  a3 := Tryd.isAgg3
  z3 := Tryd.sizeOf3
  v3 := Tryd.zeroValue3
  t4 := Tryd.underlying4
  a4 := Tryd.isAgg4
  z4 := Tryd.sizeOf4
  v4 := Tryd.zeroValue4
  t5 := Tryd.underlying5
  a5 := Tryd.isAgg5
  z5 := Tryd.sizeOf5
  v5 := Tryd.zeroValue5
  t9 := Tryd.underlying9
  a9 := Tryd.isAgg9
  z9 := Tryd.sizeOf9
  v9 := Tryd.zeroValue9
  t20 := Tryd.underlying20
  a20 := Tryd.isAgg20
  z20 := Tryd.sizeOf20
  v20 := Tryd.zeroValue20
  t37 := Tryd.underlying86
  a37 := Tryd.isAgg86
  z37 := Tryd.sizeOf86
  v37 := Tryd.zeroValue86
  t46 := Tryd.underlying93
  a46 := Tryd.isAgg93
  z46 := Tryd.sizeOf93
  v46 := Tryd.zeroValue93
  t51 := Tryd.underlying91
  a51 := Tryd.isAgg91
  z51 := Tryd.sizeOf91
  v51 := Tryd.zeroValue91
  t53 := Tryd.underlying83
  a53 := Tryd.isAgg83
  z53 := Tryd.sizeOf83
  v53 := Tryd.zeroValue83
  t171 := Tryd.underlying82
  a171 := Tryd.isAgg82
  z171 := Tryd.sizeOf82
  v171 := Tryd.zeroValue82
  t173 := Tryd.underlying87
  a173 := Tryd.isAgg87
  z173 := Tryd.sizeOf87
  v173 := Tryd.zeroValue87
  t212 := Tryd.underlying90
  a212 := Tryd.isAgg90
  z212 := Tryd.sizeOf90
  v212 := Tryd.zeroValue90
  t213 := Tryd.underlying92
  a213 := Tryd.isAgg92
  z213 := Tryd.sizeOf92
  t232 := Tryd.underlying96
  a232 := Tryd.isAgg96
  z232 := Tryd.sizeOf96
  v232 := Tryd.zeroValue96
  t233 := Tryd.underlying97
  a233 := Tryd.isAgg97
  z233 := Tryd.sizeOf97
  v233 := Tryd.zeroValue97
  g17 := by kernel_rfl
  g18 := by kernel_rfl
  g19 := by kernel_rfl }
open Go.RowKit Go.Sort Go.Lib in
/-- THE ROAD WITHOUT THE TABLE: 0 <= i < 100: NO PREMISE ON THE WORLD, AND THE WORLD IS AS IT WAS: a row that keeps its argument in that range need list no table ('laid = []'). (LAID: no walk: one application.) -/
theorem Tryd.strconv_Itoa_small (i : Nat) (hi : i < 100) (w : World) :
    Calls Tryd.prog 55 #[.int .i64 i] w fun e w' => e = .returned (.string ⟨(Lib.decDigits i).toArray⟩) ∧ w' = w := Any.strconv_Itoa_small Tryd.lays171 i hi w
end Go.Proofs

namespace Go.Proofs.YtcngpfffhjbiaaaDoor
set_option linter.unusedVariables false
set_option linter.unusedSimpArgs false
open Go.RowKit

def sep2 : List UInt8 := [44, 32]
def stepL (os : List UInt8 × List UInt8) (x : List UInt8) : List UInt8 × List UInt8 := (os.1 ++ os.2 ++ x, sep2)
def digL (k : Int) : List UInt8 := Lib.decDigits k.toNat
def headL (t : Int) : List UInt8 := digL t ++ [32, 111, 102, 32, 40]
/-- The text of a trust. -/
def textL : Nat → Tree → List UInt8
  | 0, _ => []
  | d + 1, .mk t ns is => ((is.map (textL d)).foldl stepL ((ns.map digL).foldl stepL (headL t, []))).1 ++ [41]
theorem stepL_len (l : List (List UInt8)) : ∀ os : List UInt8 × List UInt8, os.1.length ≤ (l.foldl stepL os).1.length := by
  induction l with
  | nil => intro os; exact Nat.le_refl _
  | cons x l ih =>
    intro os
    rw [List.foldl_cons]
    refine Nat.le_trans ?_ (ih _)
    unfold stepL; simp
theorem stepL_l (q : List UInt8 × List UInt8) (x : List UInt8) : (stepL q x).1.length = q.1.length + q.2.length + x.length := by unfold stepL; simp; omega
theorem stepL_take {l : List (List UInt8)} {j : Nat} {x : List UInt8} (os : List UInt8 × List UInt8) (h : l[j]? = some x) : (l.take (j + 1)).foldl stepL os = stepL ((l.take j).foldl stepL os) x := by
  rw [List.take_add_one, h, List.foldl_append]; rfl
theorem stepL_le (l : List (List UInt8)) (os : List UInt8 × List UInt8) (j : Nat) : ((l.take j).foldl stepL os).1.length ≤ (l.foldl stepL os).1.length := by
  conv => rhs; rw [← List.take_append_drop j l, List.foldl_append]
  exact stepL_len _ _
theorem sep_small (l : List (List UInt8)) (os : List UInt8 × List UInt8) (h : os.2.length ≤ 2) : (l.foldl stepL os).2.length ≤ 2 := by
  induction l generalizing os with
  | nil => exact h
  | cons x l ih => rw [List.foldl_cons]; exact ih _ (by show sep2.length ≤ 2; decide)
theorem size_of {B : ByteArray} {l : List UInt8} (h : B.data.toList = l) : B.size = l.length := by rw [← h]; exact Array.length_toList.symm
theorem bytes_of {B : ByteArray} {l : List UInt8} (h : B.data.toList = l) : B = ⟨l.toArray⟩ := by
  subst h
  simp
theorem cat_of {A B : ByteArray} {a b : List UInt8} (h : A.data.toList = a) (k : B.data.toList = b) : (A ++ B).data.toList = a ++ b := by
  rw [ByteArray.data_append, Array.toList_append, h, k]
theorem dec_len (i : Nat) (h : i < 100) : (Lib.decDigits i).length ≤ 2 := by
  have all : ∀ s : Fin 100, (Lib.decDigits s.val).length ≤ 2 := by decide +kernel
  exact all ⟨i, h⟩
/-- Numbers that Itoa takes. -/
def SmallT : Nat → Tree → Prop
  | 0, _ => False
  | d + 1, .mk t ns is => 0 ≤ t ∧ t < 100 ∧ (∀ x ∈ ns, 0 ≤ x ∧ x < 100) ∧ ∀ T ∈ is, SmallT d T
theorem WF.small {n : Int} (hn : n ≤ 100) : ∀ (d : Nat) (T : Tree), WF n d T → SmallT d T
  | 0, T, w => w.elim
  | d + 1, .mk t ns is, w => by
    obtain ⟨h1, h2, h3, h4, h5, _, h6⟩ := w
    exact ⟨by omega, by omega, fun x hx => by have := h5 x hx; omega, fun T hT => WF.small hn d T (h6 T hT)⟩

set_option maxRecDepth 100000 in
set_option maxHeartbeats 8000000 in
theorem rtext_run : ∀ (d : Nat) (P : Nat → Prop) (T : Tree) (v0 v1 v2 : Value) (w : World), TAt P d w v0 v1 v2 T → SmallT d T → (textL d T).length ≤ 1000000 →
    Calls Tryd.prog 48 #[.agg #[v0, v1, v2]] w fun e w' => e = .returned (.string ⟨(textL d T).toArray⟩) ∧ Below w.heap.size w w' := by
  intro d
  induction d with
  | zero => intro P T v0 v1 v2 w h; exact h.elim
  | succ d ih =>
  intro P T v0 v1 v2 w h hS hlen
  obtain ⟨thr, ns, is⟩ := T
  obtain ⟨rfl, hn, hi, hN, hL⟩ := h.parts
  obtain ⟨A, c, rfl⟩ := hN.slice
  obtain ⟨B, c', rfl⟩ := hL.slice
  obtain ⟨ht0, ht1, hns, his⟩ := hS
  obtain ⟨t0, rfl⟩ := Int.eq_ofNat_of_zero_le ht0
  have HLEN := Lib.hid hlen
  obtain ⟨OS1, hOS1⟩ : ∃ q, (ns.map digL).foldl stepL (headL (t0 : Int), []) = q := ⟨_, rfl⟩
  obtain ⟨OS2, hOS2⟩ : ∃ q, (is.map (textL d)).foldl stepL OS1 = q := ⟨_, rfl⟩
  have HTX := Lib.hid (show textL (d + 1) (.mk (t0 : Int) ns is) = OS2.1 ++ [41] by rw [← hOS2, ← hOS1]; rfl)
  have HO1 := Lib.hid hOS1
  have HO2 := Lib.hid hOS2
  have hl2 : OS2.1.length ≤ 999999 := by
    have := HLEN.out
    rw [HTX.out, List.length_append] at this
    simp at this; omega
  have hl1 : OS1.1.length ≤ OS2.1.length := by rw [← hOS2]; exact stepL_len _ _
  have HP1 := Lib.hid (fun j => (stepL_le (ns.map digL) (headL (t0 : Int), []) j))
  have HP2 := Lib.hid (fun j => (stepL_le (is.map (textL d)) OS1 j))
  rw [hOS1] at HP1
  rw [hOS2] at HP2
  have hb1 : Below w.heap.size w (w.alloc (.cells #[.int .i64 (t0 : Int), .slice A ns.length c, .slice B is.length c'] 28)) := balloc (bref w) _
  have k0 : (w.alloc (.cells #[.int .i64 (t0 : Int), .slice A ns.length c, .slice B is.length c'] 28)).heap[w.heap.size]? = some (.cells #[.int .i64 (t0 : Int), .slice A ns.length c, .slice B is.length c'] 28 (0, 0)) := alloc_at rfl
  have HN := Lib.hid ((hN.both (Q := fun b => b < w.heap.size) (fun _ _ _ => rfl) (fun k hk _ => hk)).below hb1)
  have HL := Lib.hid ((hL.both (Q := fun b => b < w.heap.size) (fun _ _ _ => rfl) (fun k hk _ => hk)).below hb1)
  have HB := Lib.hid hb1
  have K0 := Lib.hid k0
  have HNS := Lib.hid hns
  have HIS := Lib.hid his
  have IH := Lib.hid ih
  have HIT := Lib.hid (fun (i : Nat) (h : i < 100) W => Tryd.strconv_Itoa_small i h W)
  have ht100 : t0 < 100 := by omega
  clear hOS1 hOS2 hb1 k0 hN hL hns his ih h hlen ht0 ht1
  go_enter Tryd.func48, Tryd.ntmps48
  go_upto_region 1 with fail
  generalize w.alloc (.cells #[.int .i64 (t0 : Int), .slice A ns.length c, .slice B is.length c'] 28) = W1 at *
  generalize hg : w.heap.size = g at *
  have HG := Lib.hid hg
  clear hg
  have b0 : W1.cell? ⟨g, 0, none⟩ = some (.int .i64 (t0 : Int)) := cell_of_row _ _ 0 _ _ (0, 0) K0.out
  have b1 : W1.cell? ⟨g, 1, none⟩ = some (.slice A ns.length c) := cell_of_row _ _ 1 _ _ (0, 0) K0.out
  go_wp2_with fail
  refine (HIT.out t0 ht100 _).mono ?_
  rintro e w2 ⟨rfl, rfl⟩
  have HD0 := Lib.hid (show headL (t0 : Int) = Lib.decDigits t0 ++ [32, 111, 102, 32, 40] from rfl)
  have hd0 : (headL (t0 : Int)).length ≤ 999999 := by have := HP1.out 0; simp at this; omega
  have hds : (⟨(Lib.decDigits t0).toArray⟩ : ByteArray).size ≤ 999999 := by rw [size_of (l := Lib.decDigits t0) (by simp)]; rw [HD0.out, List.length_append] at hd0; omega
  have HS0 := Lib.hid (show ((⟨(Lib.decDigits t0).toArray⟩ : ByteArray) ++ (⟨#[32, 111, 102, 32, 40]⟩ : ByteArray)).data.toList = headL (t0 : Int) from cat_of (a := digL (t0 : Int)) (by simp; rfl) rfl)
  generalize (⟨(Lib.decDigits t0).toArray⟩ : ByteArray) = dg at *
  go_wp2_with fail
  generalize hO0 : (dg ++ (⟨#[32, 111, 102, 32, 40]⟩ : ByteArray)) = o0 at *
  clear hO0 hds
  go_loopw [3, 4, 16] (fun a b t W => ∃ (j : Nat) (o s : ByteArray), j ≤ ns.length ∧ a = .string o ∧ b = .string s ∧ t = .int .i64 j ∧ Hid (o.data.toList = (((ns.map digL).take j).foldl stepL (headL (t0 : Int), [])).1) ∧ Hid (s.data.toList = (((ns.map digL).take j).foldl stepL (headL (t0 : Int), [])).2) ∧ Hid (Below w2.heap.size w2 W)) (fun _ _ t _ => ns.length - (intOf t).toNat)
  case atStart => exact ⟨0, o0, ⟨#[]⟩, Nat.zero_le _, rfl, rfl, rfl, HS0, Lib.hid rfl, Lib.hid (bref _)⟩
  case round =>
    obtain ⟨j, o, s, hj, rfl, rfl, rfl, hO, hSp, hBe⟩ := hrel
    have ho9 : o.size ≤ 999999 := by rw [size_of hO.out]; have := HP1.out j; omega
    have hs9 : s.size ≤ 2 := by rw [size_of hSp.out]; exact sep_small _ _ (Nat.zero_le _)
    by_cases hlt : j < ns.length
    · obtain ⟨An, cn, hAn, hNc⟩ := HN.out
      injection hAn with hA1 hA2 hA3
      subst hA1
      subst hA3
      obtain ⟨bb, off, rfl, hP, hc⟩ := hNc j hlt
      have hx0 : ns[j]? = some (ns.getD j 0) := by rw [List.getD_eq_getElem?_getD, List.getElem?_eq_getElem hlt]; rfl
      have hxb := HNS.out _ (List.mem_of_getElem? hx0)
      generalize ns.getD j 0 = x at *
      obtain ⟨X, rfl⟩ := Int.eq_ofNat_of_zero_le hxb.1
      have d1 := (World.cell?_of_block (a := ⟨bb, off + j, none⟩) (hBe.out.block bb (cell_lt hc))).trans hc
      have HST := Lib.hid (stepL_take (l := ns.map digL) (j := j) (x := digL (X : Int)) (headL (t0 : Int), []) (by rw [List.getElem?_map, hx0]; rfl))
      have hX100 : X < 100 := by omega
      have hDX := dec_len X hX100
      have hdX : (⟨(Lib.decDigits X).toArray⟩ : ByteArray).size ≤ 2 := by rw [size_of (l := Lib.decDigits X) (by simp)]; exact hDX
      have HC := Lib.hid (show ((o ++ s) ++ (⟨(Lib.decDigits X).toArray⟩ : ByteArray)).data.toList = (stepL (((ns.map digL).take j).foldl stepL (headL (t0 : Int), [])) (digL (X : Int))).1 from cat_of (cat_of hO.out hSp.out) (by simp; rfl))
      have HITX := Lib.hid (fun W => HIT.out X hX100 W)
      clear hc hNc hx0 hxb hDX
      generalize (⟨(Lib.decDigits X).toArray⟩ : ByteArray) = dx at *
      go_wp2_with fail
      refine (HITX.out _).mono ?_
      rintro e w5 ⟨rfl, rfl⟩
      go_wp2_with fail
      go_roundw
      case rel => exact ⟨j + 1, _, ⟨#[44, 32]⟩, hlt, rfl, rfl, by go_num, Lib.hid (by rw [HST.out]; exact HC.out), Lib.hid (by rw [HST.out]; rfl), hBe⟩
      case measure => simp [intOf]; omega
    · obtain rfl : j = ns.length := by omega
      rw [show (ns.map digL).take ns.length = ns.map digL by rw [← List.length_map (f := digL), List.take_length], HO1.out] at hO hSp
      have b2 : wr.cell? ⟨g, 2, none⟩ = some (.slice B is.length c') := (World.cell?_of_block (a := ⟨g, 2, none⟩) (hBe.out.block g (by have := HB.out.size; have := (Array.getElem?_eq_some_iff.1 K0.out).1; omega))).trans (cell_of_row _ _ 2 _ _ (0, 0) K0.out)
      have HL2 := Lib.hid (HL.out.below hBe.out)
      have HOO := hO
      have HSS := hSp
      have HBB := hBe
      clear HN hO hSp hBe HS0 HP1
      go_wp2_with fail
      go_loopw [3, 4, 30] (fun a b t W => ∃ (j : Nat) (o s : ByteArray), j ≤ is.length ∧ a = .string o ∧ b = .string s ∧ t = .int .i64 j ∧ Hid (o.data.toList = (((is.map (textL d)).take j).foldl stepL OS1).1) ∧ Hid (s.data.toList = (((is.map (textL d)).take j).foldl stepL OS1).2) ∧ Hid (Below w2.heap.size w2 W)) (fun _ _ t _ => is.length - (intOf t).toNat)
      case atStart => exact ⟨0, o, s, Nat.zero_le _, rfl, rfl, rfl, HOO, HSS, HBB⟩
      case round =>
        clear HOO HSS HBB
        obtain ⟨j, o, s, hj, rfl, rfl, rfl, hO, hSp, hBe⟩ := hrel
        have ho9 : o.size ≤ 999999 := by rw [size_of hO.out]; have := HP2.out j; omega
        have hs9 : s.size ≤ 2 := by
          rw [size_of hSp.out]
          refine sep_small _ _ ?_
          rw [← HO1.out]
          exact sep_small _ _ (Nat.zero_le _)
        by_cases hlt : j < is.length
        · obtain ⟨Bn, cn, hBn, hLc⟩ := HL.out
          injection hBn with hA1 hA2 hA3
          subst hA1
          subst hA3
          obtain ⟨T, hT⟩ : ∃ T, is[j]? = some T := ⟨_, List.getElem?_eq_getElem hlt⟩
          obtain ⟨b, off, x0, x1, x2, rfl, hP, e0, e1, e2, hTk⟩ := hLc j T hT
          obtain ⟨t', A', n', ca, B', m', cb, rfl, rfl, rfl⟩ := hTk.form
          have lw := hBe.out.block b (cell_lt e0)
          have d0 := (World.cell?_of_block (a := ⟨b, off + j * 3, none⟩) lw).trans e0
          have d1 := (World.cell?_of_block (a := ⟨b, off + j * 3 + 1, none⟩) lw).trans e1
          have d2 := (World.cell?_of_block (a := ⟨b, off + j * 3 + 2, none⟩) lw).trans e2
          have hbA := balloc (bref wr) (.cells #[.int .i64 t', .slice A' n' ca, .slice B' m' cb] 28)
          have HTr := Lib.hid ((hTk.below hBe.out).below hbA)
          have HSM := Lib.hid (HIS.out T (List.mem_of_getElem? hT))
          have HST := Lib.hid (stepL_take (l := is.map (textL d)) (j := j) (x := textL d T) OS1 (by rw [List.getElem?_map, hT]; rfl))
          have hlt3 : o.size + s.size + (textL d T).length ≤ 999999 := by
            have h1 := HP2.out (j + 1)
            rw [HST.out] at h1
            rw [stepL_l, ← size_of hO.out, ← size_of hSp.out] at h1
            omega
          have HC := Lib.hid (show ((o ++ s) ++ (⟨(textL d T).toArray⟩ : ByteArray)).data.toList = (stepL (((is.map (textL d)).take j).foldl stepL OS1) (textL d T)).1 from cat_of (cat_of hO.out hSp.out) (by simp))
          have hts : (⟨(textL d T).toArray⟩ : ByteArray).size = (textL d T).length := size_of (by simp)
          have HCALL := Lib.hid (IH.out _ T _ _ _ _ HTr.out HSM.out (by omega))
          have HBA := Lib.hid (Below.trans hBe.out (hbA.mono hBe.out.size))
          have hbx : (wr.alloc (.cells #[.int .i64 t', .slice A' n' ca, .slice B' m' cb] 28)).heap[wr.heap.size]? = some (.cells #[.int .i64 t', .slice A' n' ca, .slice B' m' cb] 28 (0, 0)) := alloc_at rfl
          generalize (textL d T).length = tl at *
          generalize (⟨(textL d T).toArray⟩ : ByteArray) = dx at *
          clear lw e0 e1 e2 hTk hLc hT HTr HSM hbA
          go_upto_region 11 with fail
          generalize wr.alloc (.cells #[.int .i64 t', .slice A' n' ca, .slice B' m' cb] 28) = W5 at *
          generalize wr.heap.size = r5 at *
          have f0 : W5.cell? ⟨r5, 0, none⟩ = some (.int .i64 t') := cell_of_row _ _ 0 _ _ (0, 0) hbx
          have f1 : W5.cell? ⟨r5, 1, none⟩ = some (.slice A' n' ca) := cell_of_row _ _ 1 _ _ (0, 0) hbx
          have f2 : W5.cell? ⟨r5, 2, none⟩ = some (.slice B' m' cb) := cell_of_row _ _ 2 _ _ (0, 0) hbx
          clear d0 d1 d2 hbx
          go_wp2_with fail
          refine HCALL.out.mono ?_
          rintro e W6 ⟨rfl, hb6⟩
          have HB6 := Lib.hid (HBA.out.trans (hb6.mono HBA.out.size))
          clear hb6 f0 f1 f2
          go_wp2_with fail
          go_roundw
          case rel => exact ⟨j + 1, _, ⟨#[44, 32]⟩, hlt, rfl, rfl, by go_num, Lib.hid (by rw [HST.out]; exact HC.out), Lib.hid (by rw [HST.out]; rfl), HB6⟩
          case measure => simp [intOf]; omega
        · obtain rfl : j = is.length := by omega
          rw [show (is.map (textL d)).take is.length = is.map (textL d) by rw [← List.length_map (f := textL d), List.take_length], HO2.out] at hO
          have HF := Lib.hid (bytes_of (cat_of hO.out (show (⟨#[41]⟩ : ByteArray).data.toList = [41] from rfl)))
          have hgl := HG.out
          have HBF := Lib.hid (show Below w.heap.size w wr from (by have h1 := HB.out; rw [← HG.out] at h1; exact h1.trans (hBe.out.mono (by have := h1.size; omega))))
          go_wp2_with fail
          go_ret
          exact ⟨by rw [HTX.out, ← HF.out]; rfl, HBF.out⟩

set_option maxRecDepth 100000 in
set_option maxHeartbeats 4000000 in
theorem rText_run (P : Nat → Prop) (n : Int) (hn10 : n ≤ 10) (d : Nat) (hd : d ≤ 4) (T : Tree) (v0 v1 v2 : Value) (w : World) (h : TAt P d w v0 v1 v2 T) (hW : WF n d T) (hz : sizeT d T ≤ 200) (hl : (textL d T).length ≤ 1000000) :
    Calls Tryd.prog 30 #[.agg #[v0, v1, v2]] w fun e w' => e = .returned (.string ⟨(textL d T).toArray⟩) ∧ Below w.heap.size w w' := by
  obtain ⟨t', A', n', ca, B', m', cb, rfl, rfl, rfl⟩ := h.form
  have hb1 : Below w.heap.size w (w.alloc (.cells #[.int .i64 t', .slice A' n' ca, .slice B' m' cb] 28)) := balloc (bref w) _
  have k0 : (w.alloc (.cells #[.int .i64 t', .slice A' n' ca, .slice B' m' cb] 28)).heap[w.heap.size]? = some (.cells #[.int .i64 t', .slice A' n' ca, .slice B' m' cb] 28 (0, 0)) := alloc_at rfl
  have HT := Lib.hid (h.below hb1)
  have HB := Lib.hid hb1
  have K0 := Lib.hid k0
  have HW := Lib.hid hW
  clear h hb1 k0 hW
  go_enter Tryd.func30, Tryd.ntmps30
  go_upto_region 1 with fail
  generalize w.alloc (.cells #[.int .i64 t', .slice A' n' ca, .slice B' m' cb] 28) = W1 at *
  generalize hg : w.heap.size = g at *
  have HG := Lib.hid hg
  clear hg
  have c0 : W1.cell? ⟨g, 0, none⟩ = some (.int .i64 t') := cell_of_row _ _ 0 _ _ (0, 0) K0.out
  have c1 : W1.cell? ⟨g, 1, none⟩ = some (.slice A' n' ca) := cell_of_row _ _ 1 _ _ (0, 0) K0.out
  have c2 : W1.cell? ⟨g, 2, none⟩ = some (.slice B' m' cb) := cell_of_row _ _ 2 _ _ (0, 0) K0.out
  go_wp2_with fail
  refine (rtvalid_run _ n hn10 d hd _ _ _ _ _ HT.out HW.out hz).mono ?_
  rintro e W2 ⟨rfl, hb2⟩
  have hgl : g < W1.heap.size := (Array.getElem?_eq_some_iff.1 K0.out).1
  have K2 := Lib.hid ((hb2.block g hgl).trans K0.out)
  have HT2 := Lib.hid (HT.out.below hb2)
  have HB2 := Lib.hid (show Below g w W2 from HB.out.trans (hb2.mono (by omega)))
  clear hb2 c0 c1 c2
  have c0 : W2.cell? ⟨g, 0, none⟩ = some (.int .i64 t') := cell_of_row _ _ 0 _ _ (0, 0) K2.out
  have c1 : W2.cell? ⟨g, 1, none⟩ = some (.slice A' n' ca) := cell_of_row _ _ 1 _ _ (0, 0) K2.out
  have c2 : W2.cell? ⟨g, 2, none⟩ = some (.slice B' m' cb) := cell_of_row _ _ 2 _ _ (0, 0) K2.out
  go_wp2_with fail
  refine (rtext_run d _ _ _ _ _ _ HT2.out (WF.small (by omega) d _ HW.out) hl).mono ?_
  rintro e W3 ⟨rfl, hb3⟩
  have HB3 := Lib.hid (show Below g w W3 from HB2.out.trans (hb3.mono (by have := HB2.out.size; have := HG.out; omega)))
  clear hb3 c0 c1 c2
  go_wp2_with fail
  go_ret
  exact ⟨rfl, by rw [HG.out]; exact HB3.out⟩
end Go.Proofs.YtcngpfffhjbiaaaDoor

namespace Go.Proofs.YtcngpfffhjbiaaaDoor
set_option linter.unusedVariables false
set_option linter.unusedSimpArgs false
open Go.RowKit

def tA13 : Tree := .mk 3 [0, 1, 5] [.mk 2 [2, 3, 4] []]
def tB13 : Tree := .mk 2 [0, 5] [.mk 1 [3, 4] []]
def tC13 : Tree := .mk 1 [4] []
def bA13 : ByteArray := ⟨#[51, 32, 111, 102, 32, 40, 48, 44, 32, 49, 44, 32, 53, 44, 32, 50, 32, 111, 102, 32, 40, 50, 44, 32, 51, 44, 32, 52, 41, 41]⟩
def bB13 : ByteArray := ⟨#[50, 32, 111, 102, 32, 40, 48, 44, 32, 53, 44, 32, 49, 32, 111, 102, 32, 40, 51, 44, 32, 52, 41, 41]⟩
def bC13 : ByteArray := ⟨#[49, 32, 111, 102, 32, 40, 52, 41]⟩
theorem parse13 : parseF 20 bA13 = some tA13 := by kernel_rfl
theorem wfA13 : WF 10 2 tA13 := by simp [WF, tA13]
theorem wfB13 : WF 10 2 tB13 := by simp [WF, tB13]
theorem wfC13 : WF 10 2 tC13 := by simp [WF, tC13]
theorem delB13 : delT 6 0 2 tA13 = tB13 := by kernel_rfl
theorem delC13 : delT 35 4 2 tA13 = tC13 := by kernel_rfl
theorem txtB13 : (⟨(textL 2 tB13).toArray⟩ : ByteArray) = bB13 := by kernel_rfl
theorem txtC13 : (⟨(textL 2 tC13).toArray⟩ : ByteArray) = bC13 := by kernel_rfl

set_option maxRecDepth 100000 in
set_option maxHeartbeats 4000000 in
theorem awake13 (w : World) : Calls Tryd.prog 13 #[] w fun e w' => e = .returned (.bool true) ∧ Below w.heap.size w w' := by
  have HP := Lib.hid (fun W => rparse_run 20 2 10 bA13 tA13 W (by decide) parse13 (by decide) (by decide) (by decide) wfA13 (by decide))
  have HD1 := Lib.hid (fun P x0 x1 x2 W (h : TAt P 2 W x0 x1 x2 tA13) => delT_run P 10 6 0 1 tA13 x0 x1 x2 W (by decide) h wfA13)
  have HD2 := Lib.hid (fun P x0 x1 x2 W (h : TAt P 2 W x0 x1 x2 tA13) => delT_run P 10 35 4 1 tA13 x0 x1 x2 W (by decide) h wfA13)
  have HT1 := Lib.hid (fun P x0 x1 x2 W (h : TAt P 2 W x0 x1 x2 tB13) => rText_run P 10 (by decide) 2 (by decide) tB13 x0 x1 x2 W h wfB13 (by decide) (by decide +kernel))
  have HT2 := Lib.hid (fun P x0 x1 x2 W (h : TAt P 2 W x0 x1 x2 tC13) => rText_run P 10 (by decide) 2 (by decide) tC13 x0 x1 x2 W h wfC13 (by decide) (by decide +kernel))
  rw [delB13] at HD1
  rw [delC13] at HD2
  rw [txtB13] at HT1
  rw [txtC13] at HT2
  go_enter Tryd.func13, Tryd.ntmps13
  go_wp2_with fail
  refine (HP.out _).mono ?_
  rintro e W1 ⟨y0, y1, y2, rfl, hT1, hb1⟩
  obtain ⟨t', A', n', ca, B', m', cb, rfl, rfl, rfl⟩ := hT1.form
  have hbA := balloc (bref W1) (.cells #[.int .i64 t', .slice A' n' ca, .slice B' m' cb] 28)
  have k0 : (W1.alloc (.cells #[.int .i64 t', .slice A' n' ca, .slice B' m' cb] 28)).heap[W1.heap.size]? = some (.cells #[.int .i64 t', .slice A' n' ca, .slice B' m' cb] 28 (0, 0)) := alloc_at rfl
  have HT := Lib.hid (hT1.below hbA)
  have HB := Lib.hid (bstep hb1 hbA)
  have K0 := Lib.hid k0
  clear hT1 hb1 hbA k0
  go_upto_region 2 with fail
  generalize W1.alloc (.cells #[.int .i64 t', .slice A' n' ca, .slice B' m' cb] 28) = W2 at *
  generalize W1.heap.size = g at *
  have c0 : W2.cell? ⟨g, 0, none⟩ = some (.int .i64 t') := cell_of_row _ _ 0 _ _ (0, 0) K0.out
  have c1 : W2.cell? ⟨g, 1, none⟩ = some (.slice A' n' ca) := cell_of_row _ _ 1 _ _ (0, 0) K0.out
  have c2 : W2.cell? ⟨g, 2, none⟩ = some (.slice B' m' cb) := cell_of_row _ _ 2 _ _ (0, 0) K0.out
  have hgl : g < W2.heap.size := (Array.getElem?_eq_some_iff.1 K0.out).1
  go_wp2_with fail
  refine (HD1.out _ _ _ _ _ HT.out).mono ?_
  rintro e W3 ⟨y0, y1, y2, rfl, hT3, hb3⟩
  have HT3 := Lib.hid hT3
  have HB3 := Lib.hid (bstep HB.out hb3)
  have K3 := Lib.hid ((hb3.block g hgl).trans K0.out)
  have HTT := Lib.hid (HT.out.below hb3)
  have hz3 := hb3.size
  clear hT3 hb3 c0 c1 c2
  go_wp2_with fail
  refine (HT1.out _ _ _ _ _ HT3.out).mono ?_
  rintro e W4 ⟨rfl, hb4⟩
  have HB4 := Lib.hid (bstep HB3.out hb4)
  have K4 := Lib.hid ((hb4.block g (by omega)).trans K3.out)
  have HTT4 := Lib.hid (HTT.out.below hb4)
  clear hb4
  have c0 : W4.cell? ⟨g, 0, none⟩ = some (.int .i64 t') := cell_of_row _ _ 0 _ _ (0, 0) K4.out
  have c1 : W4.cell? ⟨g, 1, none⟩ = some (.slice A' n' ca) := cell_of_row _ _ 1 _ _ (0, 0) K4.out
  have c2 : W4.cell? ⟨g, 2, none⟩ = some (.slice B' m' cb) := cell_of_row _ _ 2 _ _ (0, 0) K4.out
  have e1 : (bB13.toList == [50, 32, 111, 102, 32, 40, 48, 44, 32, 53, 44, 32, 49, 32, 111, 102, 32, 40, 51, 44, 32, 52, 41, 41]) = true := by rw [ByteArray.toList_eq]; decide
  have e2 : (bC13.toList == [49, 32, 111, 102, 32, 40, 52, 41]) = true := by rw [ByteArray.toList_eq]; decide
  go_wp2_with fail
  trace_state
  refine (HD2.out _ _ _ _ _ HTT4.out).mono ?_
  rintro e W5 ⟨y0, y1, y2, rfl, hT5, hb5⟩
  have HT5 := Lib.hid hT5
  have HB5 := Lib.hid (bstep HB4.out hb5)
  clear hT5 hb5 c0 c1 c2
  go_wp2_with fail
  refine (HT2.out _ _ _ _ _ HT5.out).mono ?_
  rintro e W6 ⟨rfl, hb6⟩
  have HB6 := Lib.hid (bstep HB5.out hb6)
  clear hb6
  go_wp2_with fail
  go_ret
  exact ⟨rfl, HB6.out⟩
end Go.Proofs.YtcngpfffhjbiaaaDoor

namespace Go.Proofs.YtcngpfffhjbiaaaDoor
set_option linter.unusedVariables false
set_option linter.unusedSimpArgs false
open Go.RowKit

theorem bgrownD {w a b : World} {sb : Nat} (h : Below w.heap.size w a) (hg : a.grownBy b (some sb)) (hs : w.heap.size ≤ sb) : Below w.heap.size w b :=
  h.grown hg h.size (fun k hk => by cases hk; exact hs)
/-- What holds of the world of a law that has made a trust: the tape, the trust in its block g. -/
structure MadeAt (w : World) (g d : Nat) (t : Int) (v1 v2 : Value) (T : Tree) (W : World) : Prop where
  tape : TapeOk W w.heap.size
  out : OutAt W g t v1 v2
  tat : TAt (fun b => w.heap.size < b) d W (.int .i64 t) v1 v2 T
  low : w.heap.size < g
  below : Below w.heap.size w W
theorem MadeAt.bel {w W W' : World} {g d : Nat} {t : Int} {v1 v2 : Value} {T : Tree} (h : MadeAt w g d t v1 v2 T W) (hb : Below W.heap.size W W') : MadeAt w g d t v1 v2 T W' :=
  ⟨h.tape.below hb, h.out.keep (hb.block _ h.out.lt), h.tat.below hb, h.low, bstep h.below hb⟩
theorem MadeAt.grown {w W W' : World} {g d : Nat} {t : Int} {v1 v2 : Value} {T : Tree} (h : MadeAt w g d t v1 v2 T W) (hs : TapeOk W' w.heap.size) (hg : W.grownBy W' (some w.heap.size)) : MadeAt w g d t v1 v2 T W' :=
  ⟨hs, h.out.keep (hg.block _ h.out.lt (by have := h.low; simp; omega)), h.tat.keep (fun q hq hP => hg.block q hq (by simp; omega)), h.low, bgrownD h.below hg (Nat.le_refl _)⟩
theorem MadeAt.drew {w W : World} {g d : Nat} {t : Int} {v1 v2 : Value} {T : Tree} (h : MadeAt w g d t v1 v2 T W) : MadeAt w g d t v1 v2 T W.drew := h.bel ⟨rfl, rfl, rfl, Nat.le_refl _, fun _ _ => rfl⟩

theorem cnt_same {α β : Type} (P : α → Bool) (f : α → β) (dead good : β → Bool) : ∀ (l : List α), (∀ x ∈ l, P x = true ↔ dead (f x) = true ∨ good (f x) = true) → cnt P l = cnt dead (l.map f) + cnt good ((l.map f).filter (fun y => !dead y))
  | [], _ => by simp [cnt]
  | x :: l, h => by
    have ih := cnt_same P f dead good l (fun y hy => h y (List.mem_cons_of_mem _ hy))
    have h1 := h x List.mem_cons_self
    unfold cnt at *
    rw [List.map_cons, List.filter_cons, List.filter_cons, List.filter_cons]
    cases hd : dead (f x) <;> cases hp : P x <;> cases hg : good (f x) <;> simp [hd, hp, hg] at h1 <;> simp [List.filter_cons, hg] <;> simp at ih <;> omega

theorem holds_less {n : Int} {s : Nat} {p q : Int → Bool} (h : ∀ x, 0 ≤ x → x < n → (p x = true ↔ hasB (s : Int) x = true ∨ q x = true)) : ∀ (d : Nat) (T : Tree), WF n d T → (holdsT d p T = true ↔ deadT (lessT s d T) = true ∨ holdsT d q (lessT s d T) = true)
  | 0, T, w => w.elim
  | d + 1, .mk thr ns is, w => by
    obtain ⟨h1, _, _, _, h5, _, hi⟩ := w
    have e1 := cnt_same p id (hasB (s : Int)) q ns (fun x hx => h x (h5 x hx).1 (h5 x hx).2)
    have e2 := cnt_same (holdsT d p) (lessT s d) deadT (holdsT d q) is (fun T hT => holds_less h d T (hi T hT))
    rw [List.map_id] at e1
    show decide (thr ≤ ((cnt p ns + cnt (holdsT d p) is : Nat) : Int)) = true ↔ decide ((((thr.toNat - cnt (hasB (s : Int)) ns - cnt deadT (is.map (lessT s d)) : Nat)) : Int) ≤ 0) = true ∨ decide ((((thr.toNat - cnt (hasB (s : Int)) ns - cnt deadT (is.map (lessT s d)) : Nat)) : Int) ≤ ((cnt q (ns.filter (fun k => !hasB (s : Int) k)) + cnt (holdsT d q) ((is.map (lessT s d)).filter (fun T => !deadT T)) : Nat) : Int)) = true
    rw [decide_eq_true_iff, decide_eq_true_iff, decide_eq_true_iff, e1, e2]
    omega
theorem del_holds {n : Int} {s k : Nat} {p q : Int → Bool} (hk : q (k : Int) = true) (h : ∀ x, 0 ≤ x → x < n → (p x = true ↔ hasB (s : Int) x = true ∨ q x = true)) (d : Nat) (T : Tree) (w : WF n (d + 1) T) : holdsT (d + 1) q (delT s k (d + 1) T) = holdsT (d + 1) p T := by
  rw [Bool.eq_iff_iff, holds_less h _ _ w]
  unfold delT
  cases hd : deadT (lessT s (d + 1) T)
  · simp
  · rw [if_pos rfl]
    have : holdsT (d + 1) q (.mk 1 [(k : Int)] []) = true := by
      show decide ((1 : Int) ≤ ((cnt q [(k : Int)] + cnt (holdsT d q) [] : Nat) : Int)) = true
      unfold cnt
      simp [List.filter_cons, hk]
    simp [this]
theorem sat_of {d : Nat} {T : Tree} {s : Nat} (hs : s < 1024) : satB d T (s : Int) = holdsT d (hasB (s : Int)) T := by
  unfold satB
  rw [setB_iff.2 ⟨by omega, by omega⟩, Bool.true_and]
/-- What deletion means. -/
theorem del_means {n : Int} (hn : n ≤ 10) {g k z y : Nat} {d : Nat} {T : Tree} (w : WF n (d + 1) T) (hg : g < 1024) (hz : z < 1024) (hy : y < 1024) (hk : k < 10) (hkz : z.testBit k = true) (hb : ∀ K, K < 10 → y.testBit K = (g.testBit K || z.testBit K)) : satB (d + 1) (delT g k (d + 1) T) (z : Int) = satB (d + 1) T (y : Int) := by
  rw [sat_of hz, sat_of hy]
  refine del_holds (by rw [hasB_bit hz hk]; exact hkz) (fun x h0 h1 => ?_) d T w
  obtain ⟨X, rfl⟩ := Int.eq_ofNat_of_zero_le h0
  rw [hasB_bit hy (by omega), hasB_bit hg (by omega), hasB_bit hz (by omega), hb X (by omega), Bool.or_eq_true]
/-- Deletion makes it easier. -/
theorem del_grows {n : Int} (hn : n ≤ 10) {g k z : Nat} {d : Nat} {T : Tree} (w : WF n (d + 1) T) (hg : g < 1024) (hz : z < 1024) (hk : k < 10) (hkz : z.testBit k = true) (hkg : g.testBit k = false) (h : satB (d + 1) T (z : Int) = true) : satB (d + 1) (delT g k (d + 1) T) ((minS z g : Nat) : Int) = true := by
  have hzg : z ||| g < 1024 := Nat.or_lt_two_pow (n := 10) hz hg
  rw [del_means hn w hg (minS_lt hz) hzg hk (by rw [minS_bit, hkz, hkg]; rfl) (fun K _ => by
    rw [Nat.testBit_or, minS_bit]
    cases z.testBit K <;> cases g.testBit K <;> rfl)]
  exact sat_sub hzg (fun K hK => by rw [Nat.testBit_or, hK]; rfl) h
end Go.Proofs.YtcngpfffhjbiaaaDoor

namespace Go.Proofs.YtcngpfffhjbiaaaDoor
set_option linter.unusedVariables false
open Go.RowKit

theorem foldOr_bit : ∀ (l : List Nat) (s K : Nat), (l.foldl (· ||| ·) s).testBit K = (s.testBit K || l.any (fun x => x.testBit K))
  | [], s, K => by simp
  | x :: l, s, K => by
    rw [List.foldl_cons, foldOr_bit l _ K, Nat.testBit_or, List.any_cons, Bool.or_assoc]
theorem usesT_bit {n : Int} (hn : n ≤ 10) {d : Nat} {thr : Int} {ns : List Int} {is : List Tree} (w : WF n (d + 1) (.mk thr ns is)) (K : Nat) :
    (usesT (d + 1) (.mk thr ns is)).testBit K = (decide ((K : Int) ∈ ns) || is.any (fun T => (usesT d T).testBit K)) := by
  show ((is.map (usesT d)).foldl (· ||| ·) (nodesS ns)).testBit K = _
  rw [foldOr_bit, nodesS_bit K (w.inR hn), List.any_map]
  rfl
end Go.Proofs.YtcngpfffhjbiaaaDoor
