/- What the laws of this seat share: part 3. -/
import Derived.Test.YtcngpfffhjbiaaaDoorBase2
import Derived.Shelf.Strconv.Itoa0
import Derived.Shelf.Strconv.Itoa1
import Derived.Shelf.LaysM
import Derived.Shelf.Strconv.Itoa2
import Derived.Shelf.Strconv.Itoa3
import Derived.Test.YtcngpfffhjbiaaaDoorProg
import Derived.Deep.RegionHeld3
import Derived.Deep.DeepCutAuto
import Derived.Deep.CutRange

namespace Go.Proofs.YtcngpfffhjbiaaaDoor
set_option linter.unusedVariables false
set_option linter.unusedSimpArgs false
open Go.RowKit Go.PlainAid

/-- The trust that a text says. -/
def parseF (f : Nat) (B : ByteArray) : Option Tree :=
  match numF B 0 with
  | none => none
  | some (n, b) =>
    match restF B f b with
    | none => none
    | some (ns, is, c) => if skipF B c = B.size then some (.mk n ns is) else none
def lvT : Nat → Tree → Bool
  | 0, _ => false
  | d + 1, .mk _ _ is => is.all (lvT d)
theorem TAt.down {P : Nat → Prop} {w : World} : ∀ {d d' : Nat} {v0 v1 v2 : Value} {T : Tree}, TAt P d w v0 v1 v2 T → lvT d' T = true → TAt P d' w v0 v1 v2 T := by
  intro d
  induction d with
  | zero => intro d' v0 v1 v2 T h; exact h.elim
  | succ d ih =>
    intro d' v0 v1 v2 T h hd
    cases d' with
    | zero => cases hd
    | succ d' =>
      obtain ⟨thr, ns, is⟩ := T
      obtain ⟨h0, hn, hi, h1, ⟨B, c', h3, h4⟩⟩ := h
      refine ⟨h0, hn, hi, h1, ⟨B, c', h3, fun k T hT => ?_⟩⟩
      obtain ⟨b, off, x0, x1, x2, e1, en, e2, e3, e4, e5⟩ := h4 k T hT
      exact ⟨b, off, x0, x1, x2, e1, en, e2, e3, e4, ih e5 (List.all_eq_true.1 hd T (List.mem_of_getElem? hT))⟩
theorem parseF_some {f : Nat} {B : ByteArray} {T : Tree} (h : parseF f B = some T) : ∃ n b ns is c, numF B 0 = some (n, b) ∧ restF B f b = some (ns, is, c) ∧ skipF B c = B.size ∧ T = .mk n ns is := by
  unfold parseF at h
  cases hn : numF B 0 with
  | none => rw [hn] at h; cases h
  | some nb =>
    obtain ⟨n, b⟩ := nb
    rw [hn] at h
    simp only at h
    cases hr : restF B f b with
    | none => rw [hr] at h; cases h
    | some q =>
      obtain ⟨ns, is, c⟩ := q
      rw [hr] at h
      simp only at h
      by_cases hs : skipF B c = B.size
      · rw [if_pos hs] at h
        exact ⟨n, b, ns, is, c, by first | rfl | exact hn, by first | exact hr | rfl, hs, (Option.some.inj h).symm⟩
      · rw [if_neg hs] at h; cases h

set_option maxRecDepth 100000 in
set_option maxHeartbeats 4000000 in
theorem rparse_run (f d : Nat) (n : Int) (B : ByteArray) (T : Tree) (w : World) (hB : B.size ≤ 6000) (h : parseF f B = some T) (hd : lvT d T = true) (hd4 : d ≤ 4) (hn10 : n ≤ 10) (hW : WF n d T) (hz : sizeT d T ≤ 200) :
    Calls Tryd.prog 29 #[.string B] w fun e w' => ∃ y0 y1 y2, e = .returned (.tuple #[.agg #[y0, y1, y2], .int .i64 0, .int .i64 0]) ∧ TAt (fun b => w.heap.size ≤ b) d w' y0 y1 y2 T ∧ Below w.heap.size w w' := by
  obtain ⟨m, b, ns, is, c, hnum, hrest, hend, rfl⟩ := parseF_some h
  obtain ⟨hb1, hb2⟩ := numF_place (Nat.zero_le _) hnum
  have hb3 : Below w.heap.size w ((w.alloc (.cells #[.int .i64 0, .slice none 0 0, .slice none 0 0] 28)).alloc (.cells #[.string B, .int .i64 0] 70)) := balloc (balloc (bref w) _) _
  have k1 : OutAt ((w.alloc (.cells #[.int .i64 0, .slice none 0 0, .slice none 0 0] 28)).alloc (.cells #[.string B, .int .i64 0] 70)) w.heap.size 0 (.slice none 0 0) (.slice none 0 0) := alloc_on (alloc_at rfl)
  have kr : RdAt ((w.alloc (.cells #[.int .i64 0, .slice none 0 0, .slice none 0 0] 28)).alloc (.cells #[.string B, .int .i64 0] 70)) (w.heap.size + 1) B 0 := alloc_at (by rw [alloc_sz])
  have hsz : ((w.alloc (.cells #[.int .i64 0, .slice none 0 0, .slice none 0 0] 28)).alloc (.cells #[.string B, .int .i64 0] 70)).heap.size = w.heap.size + 2 := by rw [alloc_sz, alloc_sz]
  have HB := Lib.hid hb3
  have K1 := Lib.hid k1
  have KR := Lib.hid kr
  have HNUM := Lib.hid hnum
  have HREST := Lib.hid hrest
  have HEND := Lib.hid hend
  have HW := Lib.hid hW
  have HDP := Lib.hid hd
  clear hb3 k1 kr hnum hrest hend hW hd h
  go_enter Tryd.func29, Tryd.ntmps29
  go_upto_region 4 with fail
  generalize ((w.alloc (.cells #[.int .i64 0, .slice none 0 0, .slice none 0 0] 28)).alloc (.cells #[.string B, .int .i64 0] 70)) = W1 at *
  generalize hg : w.heap.size = g at *
  have HG := Lib.hid hg
  clear hg
  go_wp2_with fail
  refine (rnumber_run B (g + 1) 0 b m _ (by omega) (Nat.zero_le _) HNUM.out KR.out).mono ?_
  rintro e w2 ⟨rfl, hR2, hG2⟩
  have HR2 := Lib.hid hR2
  have HG2 := Lib.hid hG2
  have K12 := Lib.hid (K1.out.keep (hG2.block g (by omega) (by simp)))
  have hsz2 := hG2.size
  clear hR2 hG2 KR K1
  have hbA := balloc (bref w2) (.cells #[.int .i64 0, .slice none 0 0, .slice none 0 0] 28)
  have ko : OutAt (w2.alloc (.cells #[.int .i64 0, .slice none 0 0, .slice none 0 0] 28)) w2.heap.size 0 (.slice none 0 0) (.slice none 0 0) := alloc_at rfl
  have KO := Lib.hid ko
  have HR3 := Lib.hid (HR2.out.keep (hbA.block _ HR2.out.lt))
  have K13 := Lib.hid (K12.out.keep (hbA.block _ K12.out.lt))
  have HG3 := Lib.hid (grown_trans HG2.out (grown_below hbA))
  have hsz3 := alloc_sz w2 (.cells #[.int .i64 0, .slice none 0 0, .slice none 0 0] 28)
  clear hbA ko
  go_upto_region 6 with fail
  generalize w2.alloc (.cells #[.int .i64 0, .slice none 0 0, .slice none 0 0] 28) = W3 at *
  generalize hr : w2.heap.size = r at *
  clear hr
  go_wp2_with fail
  refine (rest_all f B (g + 1) b c m ns is _ (by omega) hb2 HR3.out HREST.out).mono ?_
  rintro e W4 ⟨y0, y1, y2, rfl, hT4, ⟨hc0, hc1⟩, hR4, hG4⟩
  obtain ⟨t2, A2, n2, c2, B2, m2, c3, rfl, rfl, rfl⟩ := hT4.form
  have HT4 := Lib.hid hT4
  have HR4 := Lib.hid hR4
  have HG4 := Lib.hid (grown_trans HG3.out hG4)
  have HKO4 := Lib.hid (KO.out.keep (hG4.block r (by omega) (by simp; omega)))
  have K14 := Lib.hid (K13.out.keep (hG4.block g (by omega) (by simp)))
  have hsz4 := hG4.size
  clear hT4 hR4 hG4 KO K13
  obtain ⟨o0, o1, o2⟩ := HKO4.out.cs
  have of0 := HKO4.out.fr 0
  have of1 := HKO4.out.fr 1
  have of2 := HKO4.out.fr 2
  have hol := HKO4.out.lt
  have l6 : ∀ q, q ≠ r → (((W4.setCell ⟨r, 0, none⟩ (.int .i64 t2)).setCell ⟨r, 1, none⟩ (.slice A2 n2 c2)).setCell ⟨r, 2, none⟩ (.slice B2 m2 c3)).heap[q]? = W4.heap[q]? := fun q hq =>
    (Below.heap_setCell _ _ _ _ (by simpa using hq)).trans ((Below.heap_setCell _ _ _ _ (by simpa using hq)).trans (Below.heap_setCell _ _ _ _ (by simpa using hq)))
  have hset : OutAt (((W4.setCell ⟨r, 0, none⟩ (.int .i64 t2)).setCell ⟨r, 1, none⟩ (.slice A2 n2 c2)).setCell ⟨r, 2, none⟩ (.slice B2 m2 c3)) r t2 (.slice A2 n2 c2) (.slice B2 m2 c3) := ((HKO4.out.set0 t2).set1 _).set2 _
  have HO5 := Lib.hid hset
  have HL6 := Lib.hid l6
  have HR5 := Lib.hid (HR4.out.keep (l6 (g + 1) (by omega)))
  have K15 := Lib.hid (K14.out.keep (l6 g (by omega)))
  have HT5 := Lib.hid (TAt.keep (w' := (((W4.setCell ⟨r, 0, none⟩ (.int .i64 t2)).setCell ⟨r, 1, none⟩ (.slice A2 n2 c2)).setCell ⟨r, 2, none⟩ (.slice B2 m2 c3))) (fun q hq hP => l6 q (by omega)) HT4.out)
  have HG5 := Lib.hid (show W1.grownBy (((W4.setCell ⟨r, 0, none⟩ (.int .i64 t2)).setCell ⟨r, 1, none⟩ (.slice A2 n2 c2)).setCell ⟨r, 2, none⟩ (.slice B2 m2 c3)) (some (g + 1)) from gset (gset (gset HG4.out (p := ⟨r, 0, none⟩) (by show W1.heap.size ≤ r; omega) _) (p := ⟨r, 1, none⟩) (by show W1.heap.size ≤ r; omega) _) (p := ⟨r, 2, none⟩) (by show W1.heap.size ≤ r; omega) _)
  have hsz5 : (((W4.setCell ⟨r, 0, none⟩ (.int .i64 t2)).setCell ⟨r, 1, none⟩ (.slice A2 n2 c2)).setCell ⟨r, 2, none⟩ (.slice B2 m2 c3)).heap.size = W4.heap.size := by simp [World.setCell]
  clear l6 hset
  go_upto_region 8 with fail
  generalize (((W4.setCell ⟨r, 0, none⟩ (.int .i64 t2)).setCell ⟨r, 1, none⟩ (.slice A2 n2 c2)).setCell ⟨r, 2, none⟩ (.slice B2 m2 c3)) = W5 at *
  clear o0 o1 o2 of0 of1 of2 HL6
  go_wp2_with fail
  refine (rskip_run B (g + 1) c _ (by omega) hc1 HR5.out).mono ?_
  rintro e W6 ⟨rfl, hR6, hG6⟩
  rw [HEND.out] at hR6
  have HT6 := Lib.hid (TAt.keep (fun q hq hP => hG6.block q hq (by simp; omega)) HT5.out)
  have HO6 := Lib.hid (HO5.out.keep (hG6.block r (by omega) (by simp; omega)))
  have K16 := Lib.hid (K15.out.keep (hG6.block g (by omega) (by simp)))
  have HG6 := Lib.hid (grown_trans HG5.out hG6)
  have hsz6 := hG6.size
  obtain ⟨r0, r1⟩ := hR6.cs
  obtain ⟨o0, o1, o2⟩ := HO6.out.cs
  clear hR6 hG6 HT5 HO5 K15 HG5
  go_wp2_with fail
  have HT6' := Lib.hid (TAt.imp (Q := fun b => W3.heap.size ≤ b) (fun _ _ h => h) (HT6.out.down HDP.out))
  refine (rtvalid_run _ n hn10 d hd4 _ _ _ _ _ HT6'.out HW.out hz).mono ?_
  rintro e W7 ⟨rfl, hb7⟩
  have HT7 := Lib.hid (HT6'.out.below hb7)
  have HO7 := Lib.hid (HO6.out.keep (hb7.block r HO6.out.lt))
  have K17 := Lib.hid (K16.out.keep (hb7.block g K16.out.lt))
  have HG7 := Lib.hid (grown_trans HG6.out (grown_below hb7))
  have hsz7 := hb7.size
  clear hb7 o0 o1 o2 r0 r1
  obtain ⟨o0, o1, o2⟩ := HO7.out.cs
  obtain ⟨z0, z1, z2⟩ := K17.out.cs
  have zf0 := K17.out.fr 0
  have zf1 := K17.out.fr 1
  have zf2 := K17.out.fr 2
  have hol7 := K17.out.lt
  go_wp2_with fail
  have hgl := HG.out
  have l8 : ∀ q, q ≠ g → (((W7.setCell ⟨g, 0, none⟩ (.int .i64 t2)).setCell ⟨g, 1, none⟩ (.slice A2 n2 c2)).setCell ⟨g, 2, none⟩ (.slice B2 m2 c3)).heap[q]? = W7.heap[q]? := fun q hq =>
    (Below.heap_setCell _ _ _ _ (by simpa using hq)).trans ((Below.heap_setCell _ _ _ _ (by simpa using hq)).trans (Below.heap_setCell _ _ _ _ (by simpa using hq)))
  refine bodyPost_ret (v := .tuple #[.agg #[.int .i64 t2, .slice A2 n2 c2, .slice B2 m2 c3], .int .i64 0, .int .i64 0]) ?_ rfl ⟨_, _, _, rfl, ?_, ?_⟩
  · simp [results, Tryd.results29, go_sem, z0, z1, z2]
  · exact TAt.both (fun q hq hP => l8 q (by omega)) (fun q hq hP => by omega) _ _ _ _ _ HT7.out
  · have h1 := HB.out
    rw [← HG.out] at h1
    have h2 : Below w.heap.size w W7 := h1.grown HG7.out h1.size (fun q hq => by obtain rfl := Option.some.inj hq; omega)
    exact bset (bset (bset h2 (p := ⟨g, 0, none⟩) (by show w.heap.size ≤ g; omega) _) (p := ⟨g, 1, none⟩) (by show w.heap.size ≤ g; omega) _) (p := ⟨g, 2, none⟩) (by show w.heap.size ≤ g; omega) _
end Go.Proofs.YtcngpfffhjbiaaaDoor

namespace Go.Proofs
open Go.Shelf
def Tryd.lays243_ren : Go.Shelf.Ren := ⟨fun | 243 => 56 | 246 => 57 | 283 => 58 | 284 => 59 | 285 => 60 | 286 => 61 | 129 => 63 | 317 => 62 | 318 => 64 | 319 => 65 | 320 => 66 | 337 => 67 | 338 => 68 | n => n, fun | 3 => 3 | 9 => 9 | 2 => 2 | 4 => 4 | 171 => 82 | 0 => 0 | 53 => 83 | 37 => 86 | 5 => 5 | 173 => 87 | 212 => 90 | 51 => 91 | 20 => 20 | 213 => 92 | 46 => 93 | 232 => 96 | 233 => 97 | n => n, fun | 17 => 0 | 18 => 1 | 19 => 2 | n => n⟩
theorem Tryd.lays243 : Go.Proofs.Lays.n243 Tryd.prog Tryd.lays243_ren := {
  mixed := by kernel_rfl
  f129 := Tryd.func63.trans (congrArg some (by kernel_rfl))
  f243 := Tryd.func56.trans (congrArg some (by kernel_rfl))
  f246 := Tryd.func57.trans (congrArg some (by kernel_rfl))
  f283 := Tryd.func58.trans (congrArg some (by kernel_rfl))
  f284 := Tryd.func59.trans (congrArg some (by kernel_rfl))
  f285 := Tryd.func60.trans (congrArg some (by kernel_rfl))
  f286 := Tryd.func61.trans (congrArg some (by kernel_rfl))
  f317 := Tryd.func62.trans (congrArg some (by kernel_rfl))
  f318 := Tryd.func64.trans (congrArg some (by kernel_rfl))
  f319 := Tryd.func65.trans (congrArg some (by kernel_rfl))
  f320 := Tryd.func66.trans (congrArg some (by kernel_rfl))
  f337 := Tryd.func67.trans (congrArg some (by kernel_rfl))
  f338 := Tryd.func68.trans (congrArg some (by kernel_rfl))
  t0 := Tryd.underlying0
  a0 := Tryd.isAgg0
  z0 := Tryd.sizeOf0
  v0 := Tryd.zeroValue0
  t2 := Tryd.underlying2
  a2 := Tryd.isAgg2
  z2 := Tryd.sizeOf2
  v2 := Tryd.zeroValue2
  t3 := Tryd.underlying3
  a3 := Tryd.isAgg3
  z3 := Tryd.sizeOf3
  v3 := Tryd.zeroValue3
  t4 := Tryd.underlying4
  a4 := Tryd.isAgg4
  z4 := Tryd.sizeOf4
  v4 := Tryd.zeroValue4
  t5 := Tryd.underlying5
  a5 := Tryd.isAgg5
  z5 := Tryd.sizeOf5
  v5 := Tryd.zeroValue5
  t9 := Tryd.underlying9
  a9 := Tryd.isAgg9
  z9 := Tryd.sizeOf9
  v9 := Tryd.zeroValue9
  t20 := Tryd.underlying20
  a20 := Tryd.isAgg20
  z20 := Tryd.sizeOf20
  v20 := Tryd.zeroValue20
  t37 := Tryd.underlying86
  a37 := Tryd.isAgg86
  z37 := Tryd.sizeOf86
  v37 := Tryd.zeroValue86
  t46 := Tryd.underlying93
  a46 := Tryd.isAgg93
  z46 := Tryd.sizeOf93
  v46 := Tryd.zeroValue93
  t51 := Tryd.underlying91
  a51 := Tryd.isAgg91
  z51 := Tryd.sizeOf91
  v51 := Tryd.zeroValue91
  t53 := Tryd.underlying83
  a53 := Tryd.isAgg83
  z53 := Tryd.sizeOf83
  v53 := Tryd.zeroValue83
  t171 := Tryd.underlying82
  a171 := Tryd.isAgg82
  z171 := Tryd.sizeOf82
  v171 := Tryd.zeroValue82
  t173 := Tryd.underlying87
  a173 := Tryd.isAgg87
  z173 := Tryd.sizeOf87
  v173 := Tryd.zeroValue87
  t212 := Tryd.underlying90
  a212 := Tryd.isAgg90
  z212 := Tryd.sizeOf90
  v212 := Tryd.zeroValue90
  t213 := Tryd.underlying92
  a213 := Tryd.isAgg92
  z213 := Tryd.sizeOf92
  t232 := Tryd.underlying96
  a232 := Tryd.isAgg96
  z232 := Tryd.sizeOf96
  v232 := Tryd.zeroValue96
  t233 := Tryd.underlying97
  a233 := Tryd.isAgg97
  z233 := Tryd.sizeOf97
  v233 := Tryd.zeroValue97
  g17 := by kernel_rfl
  g18 := by kernel_rfl
  g19 := by kernel_rfl }
open Go.RowKit Go.Sort Go.Lib in
/-- THE ROAD WITHOUT THE TABLE: 0 <= i < 100. (LAID: no walk: one application.) -/
theorem Tryd.internal_strconv_Itoa_small (i : Nat) (hi : i < 100) (w : World) :
    Calls Tryd.prog 56 #[.int .i64 i] w fun e w' => e = .returned (.string ⟨(Lib.decDigits i).toArray⟩) ∧ w' = w := Any.internal_strconv_Itoa_small Tryd.lays243 i hi w
def Tryd.lays171_ren : Go.Shelf.Ren := ⟨fun | 171 => 55 | 243 => 56 | 246 => 57 | 283 => 58 | 284 => 59 | 285 => 60 | 286 => 61 | 129 => 63 | 317 => 62 | 318 => 64 | 319 => 65 | 320 => 66 | 337 => 67 | 338 => 68 | n => n, fun | 3 => 3 | 9 => 9 | 2 => 2 | 4 => 4 | 171 => 82 | 0 => 0 | 53 => 83 | 37 => 86 | 5 => 5 | 173 => 87 | 212 => 90 | 51 => 91 | 20 => 20 | 213 => 92 | 46 => 93 | 232 => 96 | 233 => 97 | n => n, fun | 17 => 0 | 18 => 1 | 19 => 2 | n => n⟩
theorem Tryd.lays171 : Go.Proofs.Lays.n171 Tryd.prog Tryd.lays171_ren := {
  mixed := by kernel_rfl
  f129 := Tryd.func63.trans (congrArg some (by kernel_rfl))
  f171 := Tryd.func55.trans (congrArg some (by kernel_rfl))
  f243 := Tryd.func56.trans (congrArg some (by kernel_rfl))
  f246 := Tryd.func57.trans (congrArg some (by kernel_rfl))
  f283 := Tryd.func58.trans (congrArg some (by kernel_rfl))
  f284 := Tryd.func59.trans (congrArg some (by kernel_rfl))
  f285 := Tryd.func60.trans (congrArg some (by kernel_rfl))
  f286 := Tryd.func61.trans (congrArg some (by kernel_rfl))
  f317 := Tryd.func62.trans (congrArg some (by kernel_rfl))
  f318 := Tryd.func64.trans (congrArg some (by kernel_rfl))
  f319 := Tryd.func65.trans (congrArg some (by kernel_rfl))
  f320 := Tryd.func66.trans (congrArg some (by kernel_rfl))
  f337 := Tryd.func67.trans (congrArg some (by kernel_rfl))
  f338 := Tryd.func68.trans (congrArg some (by kernel_rfl))
  t0 := Tryd.underlying0
  a0 := Tryd.isAgg0
  z0 := Tryd.sizeOf0
  v0 := Tryd.zeroValue0
  t2 := Tryd.underlying2
  a2 := Tryd.isAgg2
  z2 := Tryd.sizeOf2
  v2 := Tryd.zeroValue2
  t3 := Tryd.underlying3
  a3 := Tryd.isAgg3
  z3 := Tryd.sizeOf3
  v3 := Tryd.zeroValue3
  t4 := Tryd.underlying4
  a4 := Tryd.isAgg4
  z4 := Tryd.sizeOf4
  v4 := Tryd.zeroValue4
  t5 := Tryd.underlying5
  a5 := Tryd.isAgg5
  z5 := Tryd.sizeOf5
  v5 := Tryd.zeroValue5
  t9 := Tryd.underlying9
  a9 := Tryd.isAgg9
  z9 := Tryd.sizeOf9
  v9 := Tryd.zeroValue9
  t20 := Tryd.underlying20
  a20 := Tryd.isAgg20
  z20 := Tryd.sizeOf20
  v20 := Tryd.zeroValue20
  t37 := Tryd.underlying86
  a37 := Tryd.isAgg86
  z37 := Tryd.sizeOf86
  v37 := Tryd.zeroValue86
  t46 := Tryd.underlying93
  a46 := Tryd.isAgg93
  z46 := Tryd.sizeOf93
  v46 := Tryd.zeroValue93
  t51 := Tryd.underlying91
  a51 := Tryd.isAgg91
  z51 := Tryd.sizeOf91
  v51 := Tryd.zeroValue91
  t53 := Tryd.underlying83
  a53 := Tryd.isAgg83
  z53 := Tryd.sizeOf83
  v53 := Tryd.zeroValue83
  t171 := Tryd.underlying82
  a171 := Tryd.isAgg82
  z171 := Tryd.sizeOf82
  v171 := Tryd.zeroValue82
  t173 := Tryd.underlying87
  a173 := Tryd.isAgg87
  z173 := Tryd.sizeOf87
  v173 := Tryd.zeroValue87
  t212 := Tryd.underlying90
  a212 := Tryd.isAgg90
  z212 := Tryd.sizeOf90
  v212 := Tryd.zeroValue90
  t213 := Tryd.underlying92
  a213 := Tryd.isAgg92
  z213 := Tryd.sizeOf92
  t232 := Tryd.underlying96
  a232 := Tryd.isAgg96
  z232 := Tryd.sizeOf96
  v232 := Tryd.zeroValue96
  t233 := Tryd.underlying97
  a233 := Tryd.isAgg97
  z233 := Tryd.sizeOf97
  v233 := Tryd.zeroValue97
  g17 := by kernel_rfl
  g18 := by kernel_rfl
  g19 := by kernel_rfl }
open Go.RowKit Go.Sort Go.Lib in
/-- THE ROAD WITHOUT THE TABLE: 0 <= i < 100: NO PREMISE ON THE WORLD, AND THE WORLD IS AS IT WAS: a row that keeps its argument in that range need list no table ('laid = []'). (LAID: no walk: one application.) -/
theorem Tryd.strconv_Itoa_small (i : Nat) (hi : i < 100) (w : World) :
    Calls Tryd.prog 55 #[.int .i64 i] w fun e w' => e = .returned (.string ⟨(Lib.decDigits i).toArray⟩) ∧ w' = w := Any.strconv_Itoa_small Tryd.lays171 i hi w
end Go.Proofs

namespace Go.Proofs.YtcngpfffhjbiaaaDoor
set_option linter.unusedVariables false
set_option linter.unusedSimpArgs false
open Go.RowKit

def sep2 : List UInt8 := [44, 32]
def stepL (os : List UInt8 × List UInt8) (x : List UInt8) : List UInt8 × List UInt8 := (os.1 ++ os.2 ++ x, sep2)
def digL (k : Int) : List UInt8 := Lib.decDigits k.toNat
def headL (t : Int) : List UInt8 := digL t ++ [32, 111, 102, 32, 40]
/-- The text of a trust. -/
def textL : Nat → Tree → List UInt8
  | 0, _ => []
  | d + 1, .mk t ns is => ((is.map (textL d)).foldl stepL ((ns.map digL).foldl stepL (headL t, []))).1 ++ [41]
theorem stepL_len (l : List (List UInt8)) : ∀ os : List UInt8 × List UInt8, os.1.length ≤ (l.foldl stepL os).1.length := by
  induction l with
  | nil => intro os; exact Nat.le_refl _
  | cons x l ih =>
    intro os
    rw [List.foldl_cons]
    refine Nat.le_trans ?_ (ih _)
    unfold stepL; simp
theorem stepL_l (q : List UInt8 × List UInt8) (x : List UInt8) : (stepL q x).1.length = q.1.length + q.2.length + x.length := by unfold stepL; simp; omega
theorem stepL_take {l : List (List UInt8)} {j : Nat} {x : List UInt8} (os : List UInt8 × List UInt8) (h : l[j]? = some x) : (l.take (j + 1)).foldl stepL os = stepL ((l.take j).foldl stepL os) x := by
  rw [List.take_add_one, h, List.foldl_append]; rfl
theorem stepL_le (l : List (List UInt8)) (os : List UInt8 × List UInt8) (j : Nat) : ((l.take j).foldl stepL os).1.length ≤ (l.foldl stepL os).1.length := by
  conv => rhs; rw [← List.take_append_drop j l, List.foldl_append]
  exact stepL_len _ _
theorem sep_small (l : List (List UInt8)) (os : List UInt8 × List UInt8) (h : os.2.length ≤ 2) : (l.foldl stepL os).2.length ≤ 2 := by
  induction l generalizing os with
  | nil => exact h
  | cons x l ih => rw [List.foldl_cons]; exact ih _ (by show sep2.length ≤ 2; decide)
theorem size_of {B : ByteArray} {l : List UInt8} (h : B.data.toList = l) : B.size = l.length := by rw [← h]; exact Array.length_toList.symm
theorem bytes_of {B : ByteArray} {l : List UInt8} (h : B.data.toList = l) : B = ⟨l.toArray⟩ := by
  subst h
  simp
theorem cat_of {A B : ByteArray} {a b : List UInt8} (h : A.data.toList = a) (k : B.data.toList = b) : (A ++ B).data.toList = a ++ b := by
  rw [ByteArray.data_append, Array.toList_append, h, k]
theorem dec_len (i : Nat) (h : i < 100) : (Lib.decDigits i).length ≤ 2 := by
  have all : ∀ s : Fin 100, (Lib.decDigits s.val).length ≤ 2 := by decide +kernel
  exact all ⟨i, h⟩
/-- Numbers that Itoa takes. -/
def SmallT : Nat → Tree → Prop
  | 0, _ => False
  | d + 1, .mk t ns is => 0 ≤ t ∧ t < 100 ∧ (∀ x ∈ ns, 0 ≤ x ∧ x < 100) ∧ ∀ T ∈ is, SmallT d T
theorem WF.small {n : Int} (hn : n ≤ 100) : ∀ (d : Nat) (T : Tree), WF n d T → SmallT d T
  | 0, T, w => w.elim
  | d + 1, .mk t ns is, w => by
    obtain ⟨h1, h2, h3, h4, h5, _, h6⟩ := w
    exact ⟨by omega, by omega, fun x hx => by have := h5 x hx; omega, fun T hT => WF.small hn d T (h6 T hT)⟩

set_option maxRecDepth 100000 in
set_option maxHeartbeats 8000000 in
theorem rtext_run : ∀ (d : Nat) (P : Nat → Prop) (T : Tree) (v0 v1 v2 : Value) (w : World), TAt P d w v0 v1 v2 T → SmallT d T → (textL d T).length ≤ 1000000 →
    Calls Tryd.prog 48 #[.agg #[v0, v1, v2]] w fun e w' => e = .returned (.string ⟨(textL d T).toArray⟩) ∧ Below w.heap.size w w' := by
  intro d
  induction d with
  | zero => intro P T v0 v1 v2 w h; exact h.elim
  | succ d ih =>
  intro P T v0 v1 v2 w h hS hlen
  obtain ⟨thr, ns, is⟩ := T
  obtain ⟨rfl, hn, hi, hN, hL⟩ := h.parts
  obtain ⟨A, c, rfl⟩ := hN.slice
  obtain ⟨B, c', rfl⟩ := hL.slice
  obtain ⟨ht0, ht1, hns, his⟩ := hS
  obtain ⟨t0, rfl⟩ := Int.eq_ofNat_of_zero_le ht0
  have HLEN := Lib.hid hlen
  obtain ⟨OS1, hOS1⟩ : ∃ q, (ns.map digL).foldl stepL (headL (t0 : Int), []) = q := ⟨_, rfl⟩
  obtain ⟨OS2, hOS2⟩ : ∃ q, (is.map (textL d)).foldl stepL OS1 = q := ⟨_, rfl⟩
  have HTX := Lib.hid (show textL (d + 1) (.mk (t0 : Int) ns is) = OS2.1 ++ [41] by rw [← hOS2, ← hOS1]; rfl)
  have HO1 := Lib.hid hOS1
  have HO2 := Lib.hid hOS2
  have hl2 : OS2.1.length ≤ 999999 := by
    have := HLEN.out
    rw [HTX.out, List.length_append] at this
    simp at this; omega
  have hl1 : OS1.1.length ≤ OS2.1.length := by rw [← hOS2]; exact stepL_len _ _
  have HP1 := Lib.hid (fun j => (stepL_le (ns.map digL) (headL (t0 : Int), []) j))
  have HP2 := Lib.hid (fun j => (stepL_le (is.map (textL d)) OS1 j))
  rw [hOS1] at HP1
  rw [hOS2] at HP2
  have hb1 : Below w.heap.size w (w.alloc (.cells #[.int .i64 (t0 : Int), .slice A ns.length c, .slice B is.length c'] 28)) := balloc (bref w) _
  have k0 : (w.alloc (.cells #[.int .i64 (t0 : Int), .slice A ns.length c, .slice B is.length c'] 28)).heap[w.heap.size]? = some (.cells #[.int .i64 (t0 : Int), .slice A ns.length c, .slice B is.length c'] 28 (0, 0)) := alloc_at rfl
  have HN := Lib.hid ((hN.both (Q := fun b => b < w.heap.size) (fun _ _ _ => rfl) (fun k hk _ => hk)).below hb1)
  have HL := Lib.hid ((hL.both (Q := fun b => b < w.heap.size) (fun _ _ _ => rfl) (fun k hk _ => hk)).below hb1)
  have HB := Lib.hid hb1
  have K0 := Lib.hid k0
  have HNS := Lib.hid hns
  have HIS := Lib.hid his
  have IH := Lib.hid ih
  have HIT := Lib.hid (fun (i : Nat) (h : i < 100) W => Tryd.strconv_Itoa_small i h W)
  have ht100 : t0 < 100 := by omega
  clear hOS1 hOS2 hb1 k0 hN hL hns his ih h hlen ht0 ht1
  go_enter Tryd.func48, Tryd.ntmps48
  go_upto_region 1 with fail
  generalize w.alloc (.cells #[.int .i64 (t0 : Int), .slice A ns.length c, .slice B is.length c'] 28) = W1 at *
  generalize hg : w.heap.size = g at *
  have HG := Lib.hid hg
  clear hg
  have b0 : W1.cell? ⟨g, 0, none⟩ = some (.int .i64 (t0 : Int)) := cell_of_row _ _ 0 _ _ (0, 0) K0.out
  have b1 : W1.cell? ⟨g, 1, none⟩ = some (.slice A ns.length c) := cell_of_row _ _ 1 _ _ (0, 0) K0.out
  go_wp2_with fail
  refine (HIT.out t0 ht100 _).mono ?_
  rintro e w2 ⟨rfl, rfl⟩
  have HD0 := Lib.hid (show headL (t0 : Int) = Lib.decDigits t0 ++ [32, 111, 102, 32, 40] from rfl)
  have hd0 : (headL (t0 : Int)).length ≤ 999999 := by have := HP1.out 0; simp at this; omega
  have hds : (⟨(Lib.decDigits t0).toArray⟩ : ByteArray).size ≤ 999999 := by rw [size_of (l := Lib.decDigits t0) (by simp)]; rw [HD0.out, List.length_append] at hd0; omega
  have HS0 := Lib.hid (show ((⟨(Lib.decDigits t0).toArray⟩ : ByteArray) ++ (⟨#[32, 111, 102, 32, 40]⟩ : ByteArray)).data.toList = headL (t0 : Int) from cat_of (a := digL (t0 : Int)) (by simp; rfl) rfl)
  generalize (⟨(Lib.decDigits t0).toArray⟩ : ByteArray) = dg at *
  go_wp2_with fail
  generalize hO0 : (dg ++ (⟨#[32, 111, 102, 32, 40]⟩ : ByteArray)) = o0 at *
  clear hO0 hds
  go_loopw [3, 4, 16] (fun a b t W => ∃ (j : Nat) (o s : ByteArray), j ≤ ns.length ∧ a = .string o ∧ b = .string s ∧ t = .int .i64 j ∧ Hid (o.data.toList = (((ns.map digL).take j).foldl stepL (headL (t0 : Int), [])).1) ∧ Hid (s.data.toList = (((ns.map digL).take j).foldl stepL (headL (t0 : Int), [])).2) ∧ Hid (Below w2.heap.size w2 W)) (fun _ _ t _ => ns.length - (intOf t).toNat)
  case atStart => exact ⟨0, o0, ⟨#[]⟩, Nat.zero_le _, rfl, rfl, rfl, HS0, Lib.hid rfl, Lib.hid (bref _)⟩
  case round =>
    obtain ⟨j, o, s, hj, rfl, rfl, rfl, hO, hSp, hBe⟩ := hrel
    have ho9 : o.size ≤ 999999 := by rw [size_of hO.out]; have := HP1.out j; omega
    have hs9 : s.size ≤ 2 := by rw [size_of hSp.out]; exact sep_small _ _ (Nat.zero_le _)
    by_cases hlt : j < ns.length
    · obtain ⟨An, cn, hAn, hNc⟩ := HN.out
      injection hAn with hA1 hA2 hA3
      subst hA1
      subst hA3
      obtain ⟨bb, off, rfl, hP, hc⟩ := hNc j hlt
      have hx0 : ns[j]? = some (ns.getD j 0) := by rw [List.getD_eq_getElem?_getD, List.getElem?_eq_getElem hlt]; rfl
      have hxb := HNS.out _ (List.mem_of_getElem? hx0)
      generalize ns.getD j 0 = x at *
      obtain ⟨X, rfl⟩ := Int.eq_ofNat_of_zero_le hxb.1
      have d1 := (World.cell?_of_block (a := ⟨bb, off + j, none⟩) (hBe.out.block bb (cell_lt hc))).trans hc
      have HST := Lib.hid (stepL_take (l := ns.map digL) (j := j) (x := digL (X : Int)) (headL (t0 : Int), []) (by rw [List.getElem?_map, hx0]; rfl))
      have hX100 : X < 100 := by omega
      have hDX := dec_len X hX100
      have hdX : (⟨(Lib.decDigits X).toArray⟩ : ByteArray).size ≤ 2 := by rw [size_of (l := Lib.decDigits X) (by simp)]; exact hDX
      have HC := Lib.hid (show ((o ++ s) ++ (⟨(Lib.decDigits X).toArray⟩ : ByteArray)).data.toList = (stepL (((ns.map digL).take j).foldl stepL (headL (t0 : Int), [])) (digL (X : Int))).1 from cat_of (cat_of hO.out hSp.out) (by simp; rfl))
      have HITX := Lib.hid (fun W => HIT.out X hX100 W)
      clear hc hNc hx0 hxb hDX
      generalize (⟨(Lib.decDigits X).toArray⟩ : ByteArray) = dx at *
      go_wp2_with fail
      refine (HITX.out _).mono ?_
      rintro e w5 ⟨rfl, rfl⟩
      go_wp2_with fail
      go_roundw
      case rel => exact ⟨j + 1, _, ⟨#[44, 32]⟩, hlt, rfl, rfl, by go_num, Lib.hid (by rw [HST.out]; exact HC.out), Lib.hid (by rw [HST.out]; rfl), hBe⟩
      case measure => simp [intOf]; omega
    · obtain rfl : j = ns.length := by omega
      rw [show (ns.map digL).take ns.length = ns.map digL by rw [← List.length_map (f := digL), List.take_length], HO1.out] at hO hSp
      have b2 : wr.cell? ⟨g, 2, none⟩ = some (.slice B is.length c') := (World.cell?_of_block (a := ⟨g, 2, none⟩) (hBe.out.block g (by have := HB.out.size; have := (Array.getElem?_eq_some_iff.1 K0.out).1; omega))).trans (cell_of_row _ _ 2 _ _ (0, 0) K0.out)
      have HL2 := Lib.hid (HL.out.below hBe.out)
      have HOO := hO
      have HSS := hSp
      have HBB := hBe
      clear HN hO hSp hBe HS0 HP1
      go_wp2_with fail
      go_loopw [3, 4, 30] (fun a b t W => ∃ (j : Nat) (o s : ByteArray), j ≤ is.length ∧ a = .string o ∧ b = .string s ∧ t = .int .i64 j ∧ Hid (o.data.toList = (((is.map (textL d)).take j).foldl stepL OS1).1) ∧ Hid (s.data.toList = (((is.map (textL d)).take j).foldl stepL OS1).2) ∧ Hid (Below w2.heap.size w2 W)) (fun _ _ t _ => is.length - (intOf t).toNat)
      case atStart => exact ⟨0, o, s, Nat.zero_le _, rfl, rfl, rfl, HOO, HSS, HBB⟩
      case round =>
        clear HOO HSS HBB
        obtain ⟨j, o, s, hj, rfl, rfl, rfl, hO, hSp, hBe⟩ := hrel
        have ho9 : o.size ≤ 999999 := by rw [size_of hO.out]; have := HP2.out j; omega
        have hs9 : s.size ≤ 2 := by
          rw [size_of hSp.out]
          refine sep_small _ _ ?_
          rw [← HO1.out]
          exact sep_small _ _ (Nat.zero_le _)
        by_cases hlt : j < is.length
        · obtain ⟨Bn, cn, hBn, hLc⟩ := HL.out
          injection hBn with hA1 hA2 hA3
          subst hA1
          subst hA3
          obtain ⟨T, hT⟩ : ∃ T, is[j]? = some T := ⟨_, List.getElem?_eq_getElem hlt⟩
          obtain ⟨b, off, x0, x1, x2, rfl, hP, e0, e1, e2, hTk⟩ := hLc j T hT
          obtain ⟨t', A', n', ca, B', m', cb, rfl, rfl, rfl⟩ := hTk.form
          have lw := hBe.out.block b (cell_lt e0)
          have d0 := (World.cell?_of_block (a := ⟨b, off + j * 3, none⟩) lw).trans e0
          have d1 := (World.cell?_of_block (a := ⟨b, off + j * 3 + 1, none⟩) lw).trans e1
          have d2 := (World.cell?_of_block (a := ⟨b, off + j * 3 + 2, none⟩) lw).trans e2
          have hbA := balloc (bref wr) (.cells #[.int .i64 t', .slice A' n' ca, .slice B' m' cb] 28)
          have HTr := Lib.hid ((hTk.below hBe.out).below hbA)
          have HSM := Lib.hid (HIS.out T (List.mem_of_getElem? hT))
          have HST := Lib.hid (stepL_take (l := is.map (textL d)) (j := j) (x := textL d T) OS1 (by rw [List.getElem?_map, hT]; rfl))
          have hlt3 : o.size + s.size + (textL d T).length ≤ 999999 := by
            have h1 := HP2.out (j + 1)
            rw [HST.out] at h1
            rw [stepL_l, ← size_of hO.out, ← size_of hSp.out] at h1
            omega
          have HC := Lib.hid (show ((o ++ s) ++ (⟨(textL d T).toArray⟩ : ByteArray)).data.toList = (stepL (((is.map (textL d)).take j).foldl stepL OS1) (textL d T)).1 from cat_of (cat_of hO.out hSp.out) (by simp))
          have hts : (⟨(textL d T).toArray⟩ : ByteArray).size = (textL d T).length := size_of (by simp)
          have HCALL := Lib.hid (IH.out _ T _ _ _ _ HTr.out HSM.out (by omega))
          have HBA := Lib.hid (Below.trans hBe.out (hbA.mono hBe.out.size))
          have hbx : (wr.alloc (.cells #[.int .i64 t', .slice A' n' ca, .slice B' m' cb] 28)).heap[wr.heap.size]? = some (.cells #[.int .i64 t', .slice A' n' ca, .slice B' m' cb] 28 (0, 0)) := alloc_at rfl
          generalize (textL d T).length = tl at *
          generalize (⟨(textL d T).toArray⟩ : ByteArray) = dx at *
          clear lw e0 e1 e2 hTk hLc hT HTr HSM hbA
          go_upto_region 11 with fail
          generalize wr.alloc (.cells #[.int .i64 t', .slice A' n' ca, .slice B' m' cb] 28) = W5 at *
          generalize wr.heap.size = r5 at *
          have f0 : W5.cell? ⟨r5, 0, none⟩ = some (.int .i64 t') := cell_of_row _ _ 0 _ _ (0, 0) hbx
          have f1 : W5.cell? ⟨r5, 1, none⟩ = some (.slice A' n' ca) := cell_of_row _ _ 1 _ _ (0, 0) hbx
          have f2 : W5.cell? ⟨r5, 2, none⟩ = some (.slice B' m' cb) := cell_of_row _ _ 2 _ _ (0, 0) hbx
          clear d0 d1 d2 hbx
          go_wp2_with fail
          refine HCALL.out.mono ?_
          rintro e W6 ⟨rfl, hb6⟩
          have HB6 := Lib.hid (HBA.out.trans (hb6.mono HBA.out.size))
          clear hb6 f0 f1 f2
          go_wp2_with fail
          go_roundw
          case rel => exact ⟨j + 1, _, ⟨#[44, 32]⟩, hlt, rfl, rfl, by go_num, Lib.hid (by rw [HST.out]; exact HC.out), Lib.hid (by rw [HST.out]; rfl), HB6⟩
          case measure => simp [intOf]; omega
        · obtain rfl : j = is.length := by omega
          rw [show (is.map (textL d)).take is.length = is.map (textL d) by rw [← List.length_map (f := textL d), List.take_length], HO2.out] at hO
          have HF := Lib.hid (bytes_of (cat_of hO.out (show (⟨#[41]⟩ : ByteArray).data.toList = [41] from rfl)))
          have hgl := HG.out
          have HBF := Lib.hid (show Below w.heap.size w wr from (by have h1 := HB.out; rw [← HG.out] at h1; exact h1.trans (hBe.out.mono (by have := h1.size; omega))))
          go_wp2_with fail
          go_ret
          exact ⟨by rw [HTX.out, ← HF.out]; rfl, HBF.out⟩

set_option maxRecDepth 100000 in
set_option maxHeartbeats 4000000 in
theorem rText_run (P : Nat → Prop) (n : Int) (hn10 : n ≤ 10) (d : Nat) (hd : d ≤ 4) (T : Tree) (v0 v1 v2 : Value) (w : World) (h : TAt P d w v0 v1 v2 T) (hW : WF n d T) (hz : sizeT d T ≤ 200) (hl : (textL d T).length ≤ 1000000) :
    Calls Tryd.prog 30 #[.agg #[v0, v1, v2]] w fun e w' => e = .returned (.string ⟨(textL d T).toArray⟩) ∧ Below w.heap.size w w' := by
  obtain ⟨t', A', n', ca, B', m', cb, rfl, rfl, rfl⟩ := h.form
  have hb1 : Below w.heap.size w (w.alloc (.cells #[.int .i64 t', .slice A' n' ca, .slice B' m' cb] 28)) := balloc (bref w) _
  have k0 : (w.alloc (.cells #[.int .i64 t', .slice A' n' ca, .slice B' m' cb] 28)).heap[w.heap.size]? = some (.cells #[.int .i64 t', .slice A' n' ca, .slice B' m' cb] 28 (0, 0)) := alloc_at rfl
  have HT := Lib.hid (h.below hb1)
  have HB := Lib.hid hb1
  have K0 := Lib.hid k0
  have HW := Lib.hid hW
  clear h hb1 k0 hW
  go_enter Tryd.func30, Tryd.ntmps30
  go_upto_region 1 with fail
  generalize w.alloc (.cells #[.int .i64 t', .slice A' n' ca, .slice B' m' cb] 28) = W1 at *
  generalize hg : w.heap.size = g at *
  have HG := Lib.hid hg
  clear hg
  have c0 : W1.cell? ⟨g, 0, none⟩ = some (.int .i64 t') := cell_of_row _ _ 0 _ _ (0, 0) K0.out
  have c1 : W1.cell? ⟨g, 1, none⟩ = some (.slice A' n' ca) := cell_of_row _ _ 1 _ _ (0, 0) K0.out
  have c2 : W1.cell? ⟨g, 2, none⟩ = some (.slice B' m' cb) := cell_of_row _ _ 2 _ _ (0, 0) K0.out
  go_wp2_with fail
  refine (rtvalid_run _ n hn10 d hd _ _ _ _ _ HT.out HW.out hz).mono ?_
  rintro e W2 ⟨rfl, hb2⟩
  have hgl : g < W1.heap.size := (Array.getElem?_eq_some_iff.1 K0.out).1
  have K2 := Lib.hid ((hb2.block g hgl).trans K0.out)
  have HT2 := Lib.hid (HT.out.below hb2)
  have HB2 := Lib.hid (show Below g w W2 from HB.out.trans (hb2.mono (by omega)))
  clear hb2 c0 c1 c2
  have c0 : W2.cell? ⟨g, 0, none⟩ = some (.int .i64 t') := cell_of_row _ _ 0 _ _ (0, 0) K2.out
  have c1 : W2.cell? ⟨g, 1, none⟩ = some (.slice A' n' ca) := cell_of_row _ _ 1 _ _ (0, 0) K2.out
  have c2 : W2.cell? ⟨g, 2, none⟩ = some (.slice B' m' cb) := cell_of_row _ _ 2 _ _ (0, 0) K2.out
  go_wp2_with fail
  refine (rtext_run d _ _ _ _ _ _ HT2.out (WF.small (by omega) d _ HW.out) hl).mono ?_
  rintro e W3 ⟨rfl, hb3⟩
  have HB3 := Lib.hid (show Below g w W3 from HB2.out.trans (hb3.mono (by have := HB2.out.size; have := HG.out; omega)))
  clear hb3 c0 c1 c2
  go_wp2_with fail
  go_ret
  exact ⟨rfl, by rw [HG.out]; exact HB3.out⟩
end Go.Proofs.YtcngpfffhjbiaaaDoor

namespace Go.Proofs.YtcngpfffhjbiaaaDoor
set_option linter.unusedVariables false
set_option linter.unusedSimpArgs false
open Go.RowKit

def tA13 : Tree := .mk 3 [0, 1, 5] [.mk 2 [2, 3, 4] []]
def tB13 : Tree := .mk 2 [0, 5] [.mk 1 [3, 4] []]
def tC13 : Tree := .mk 1 [4] []
def bA13 : ByteArray := ⟨#[51, 32, 111, 102, 32, 40, 48, 44, 32, 49, 44, 32, 53, 44, 32, 50, 32, 111, 102, 32, 40, 50, 44, 32, 51, 44, 32, 52, 41, 41]⟩
def bB13 : ByteArray := ⟨#[50, 32, 111, 102, 32, 40, 48, 44, 32, 53, 44, 32, 49, 32, 111, 102, 32, 40, 51, 44, 32, 52, 41, 41]⟩
def bC13 : ByteArray := ⟨#[49, 32, 111, 102, 32, 40, 52, 41]⟩
theorem parse13 : parseF 20 bA13 = some tA13 := by kernel_rfl
theorem wfA13 : WF 10 2 tA13 := by simp [WF, tA13]
theorem wfB13 : WF 10 2 tB13 := by simp [WF, tB13]
theorem wfC13 : WF 10 2 tC13 := by simp [WF, tC13]
theorem delB13 : delT 6 0 2 tA13 = tB13 := by kernel_rfl
theorem delC13 : delT 35 4 2 tA13 = tC13 := by kernel_rfl
theorem txtB13 : (⟨(textL 2 tB13).toArray⟩ : ByteArray) = bB13 := by kernel_rfl
theorem txtC13 : (⟨(textL 2 tC13).toArray⟩ : ByteArray) = bC13 := by kernel_rfl

set_option maxRecDepth 100000 in
set_option maxHeartbeats 4000000 in
theorem awake13 (w : World) : Calls Tryd.prog 13 #[] w fun e w' => e = .returned (.bool true) ∧ Below w.heap.size w w' := by
  have HP := Lib.hid (fun W => rparse_run 20 2 10 bA13 tA13 W (by decide) parse13 (by decide) (by decide) (by decide) wfA13 (by decide))
  have HD1 := Lib.hid (fun P x0 x1 x2 W (h : TAt P 2 W x0 x1 x2 tA13) => delT_run P 10 6 0 1 tA13 x0 x1 x2 W (by decide) h wfA13)
  have HD2 := Lib.hid (fun P x0 x1 x2 W (h : TAt P 2 W x0 x1 x2 tA13) => delT_run P 10 35 4 1 tA13 x0 x1 x2 W (by decide) h wfA13)
  have HT1 := Lib.hid (fun P x0 x1 x2 W (h : TAt P 2 W x0 x1 x2 tB13) => rText_run P 10 (by decide) 2 (by decide) tB13 x0 x1 x2 W h wfB13 (by decide) (by decide +kernel))
  have HT2 := Lib.hid (fun P x0 x1 x2 W (h : TAt P 2 W x0 x1 x2 tC13) => rText_run P 10 (by decide) 2 (by decide) tC13 x0 x1 x2 W h wfC13 (by decide) (by decide +kernel))
  rw [delB13] at HD1
  rw [delC13] at HD2
  rw [txtB13] at HT1
  rw [txtC13] at HT2
  go_enter Tryd.func13, Tryd.ntmps13
  go_wp2_with fail
  refine (HP.out _).mono ?_
  rintro e W1 ⟨y0, y1, y2, rfl, hT1, hb1⟩
  obtain ⟨t', A', n', ca, B', m', cb, rfl, rfl, rfl⟩ := hT1.form
  have hbA := balloc (bref W1) (.cells #[.int .i64 t', .slice A' n' ca, .slice B' m' cb] 28)
  have k0 : (W1.alloc (.cells #[.int .i64 t', .slice A' n' ca, .slice B' m' cb] 28)).heap[W1.heap.size]? = some (.cells #[.int .i64 t', .slice A' n' ca, .slice B' m' cb] 28 (0, 0)) := alloc_at rfl
  have HT := Lib.hid (hT1.below hbA)
  have HB := Lib.hid (bstep hb1 hbA)
  have K0 := Lib.hid k0
  clear hT1 hb1 hbA k0
  go_upto_region 2 with fail
  generalize W1.alloc (.cells #[.int .i64 t', .slice A' n' ca, .slice B' m' cb] 28) = W2 at *
  generalize W1.heap.size = g at *
  have c0 : W2.cell? ⟨g, 0, none⟩ = some (.int .i64 t') := cell_of_row _ _ 0 _ _ (0, 0) K0.out
  have c1 : W2.cell? ⟨g, 1, none⟩ = some (.slice A' n' ca) := cell_of_row _ _ 1 _ _ (0, 0) K0.out
  have c2 : W2.cell? ⟨g, 2, none⟩ = some (.slice B' m' cb) := cell_of_row _ _ 2 _ _ (0, 0) K0.out
  have hgl : g < W2.heap.size := (Array.getElem?_eq_some_iff.1 K0.out).1
  go_wp2_with fail
  refine (HD1.out _ _ _ _ _ HT.out).mono ?_
  rintro e W3 ⟨y0, y1, y2, rfl, hT3, hb3⟩
  have HT3 := Lib.hid hT3
  have HB3 := Lib.hid (bstep HB.out hb3)
  have K3 := Lib.hid ((hb3.block g hgl).trans K0.out)
  have HTT := Lib.hid (HT.out.below hb3)
  have hz3 := hb3.size
  clear hT3 hb3 c0 c1 c2
  go_wp2_with fail
  refine (HT1.out _ _ _ _ _ HT3.out).mono ?_
  rintro e W4 ⟨rfl, hb4⟩
  have HB4 := Lib.hid (bstep HB3.out hb4)
  have K4 := Lib.hid ((hb4.block g (by omega)).trans K3.out)
  have HTT4 := Lib.hid (HTT.out.below hb4)
  clear hb4
  have c0 : W4.cell? ⟨g, 0, none⟩ = some (.int .i64 t') := cell_of_row _ _ 0 _ _ (0, 0) K4.out
  have c1 : W4.cell? ⟨g, 1, none⟩ = some (.slice A' n' ca) := cell_of_row _ _ 1 _ _ (0, 0) K4.out
  have c2 : W4.cell? ⟨g, 2, none⟩ = some (.slice B' m' cb) := cell_of_row _ _ 2 _ _ (0, 0) K4.out
  have e1 : (bB13.toList == [50, 32, 111, 102, 32, 40, 48, 44, 32, 53, 44, 32, 49, 32, 111, 102, 32, 40, 51, 44, 32, 52, 41, 41]) = true := by rw [ByteArray.toList_eq]; decide
  have e2 : (bC13.toList == [49, 32, 111, 102, 32, 40, 52, 41]) = true := by rw [ByteArray.toList_eq]; decide
  go_wp2_with fail
  trace_state
  refine (HD2.out _ _ _ _ _ HTT4.out).mono ?_
  rintro e W5 ⟨y0, y1, y2, rfl, hT5, hb5⟩
  have HT5 := Lib.hid hT5
  have HB5 := Lib.hid (bstep HB4.out hb5)
  clear hT5 hb5 c0 c1 c2
  go_wp2_with fail
  refine (HT2.out _ _ _ _ _ HT5.out).mono ?_
  rintro e W6 ⟨rfl, hb6⟩
  have HB6 := Lib.hid (bstep HB5.out hb6)
  clear hb6
  go_wp2_with fail
  go_ret
  exact ⟨rfl, HB6.out⟩
end Go.Proofs.YtcngpfffhjbiaaaDoor

namespace Go.Proofs.YtcngpfffhjbiaaaDoor
set_option linter.unusedVariables false
set_option linter.unusedSimpArgs false
open Go.RowKit

theorem bgrownD {w a b : World} {sb : Nat} (h : Below w.heap.size w a) (hg : a.grownBy b (some sb)) (hs : w.heap.size ≤ sb) : Below w.heap.size w b :=
  h.grown hg h.size (fun k hk => by cases hk; exact hs)
/-- What holds of the world of a law that has made a trust: the tape, the trust in its block g. -/
structure MadeAt (w : World) (g d : Nat) (t : Int) (v1 v2 : Value) (T : Tree) (W : World) : Prop where
  tape : TapeOk W w.heap.size
  out : OutAt W g t v1 v2
  tat : TAt (fun b => w.heap.size < b) d W (.int .i64 t) v1 v2 T
  low : w.heap.size < g
  below : Below w.heap.size w W
theorem MadeAt.bel {w W W' : World} {g d : Nat} {t : Int} {v1 v2 : Value} {T : Tree} (h : MadeAt w g d t v1 v2 T W) (hb : Below W.heap.size W W') : MadeAt w g d t v1 v2 T W' :=
  ⟨h.tape.below hb, h.out.keep (hb.block _ h.out.lt), h.tat.below hb, h.low, bstep h.below hb⟩
theorem MadeAt.grown {w W W' : World} {g d : Nat} {t : Int} {v1 v2 : Value} {T : Tree} (h : MadeAt w g d t v1 v2 T W) (hs : TapeOk W' w.heap.size) (hg : W.grownBy W' (some w.heap.size)) : MadeAt w g d t v1 v2 T W' :=
  ⟨hs, h.out.keep (hg.block _ h.out.lt (by have := h.low; simp; omega)), h.tat.keep (fun q hq hP => hg.block q hq (by simp; omega)), h.low, bgrownD h.below hg (Nat.le_refl _)⟩
theorem MadeAt.drew {w W : World} {g d : Nat} {t : Int} {v1 v2 : Value} {T : Tree} (h : MadeAt w g d t v1 v2 T W) : MadeAt w g d t v1 v2 T W.drew := h.bel ⟨rfl, rfl, rfl, Nat.le_refl _, fun _ _ => rfl⟩

theorem cnt_same {α β : Type} (P : α → Bool) (f : α → β) (dead good : β → Bool) : ∀ (l : List α), (∀ x ∈ l, P x = true ↔ dead (f x) = true ∨ good (f x) = true) → cnt P l = cnt dead (l.map f) + cnt good ((l.map f).filter (fun y => !dead y))
  | [], _ => by simp [cnt]
  | x :: l, h => by
    have ih := cnt_same P f dead good l (fun y hy => h y (List.mem_cons_of_mem _ hy))
    have h1 := h x List.mem_cons_self
    unfold cnt at *
    rw [List.map_cons, List.filter_cons, List.filter_cons, List.filter_cons]
    cases hd : dead (f x) <;> cases hp : P x <;> cases hg : good (f x) <;> simp [hd, hp, hg] at h1 <;> simp [List.filter_cons, hg] <;> simp at ih <;> omega

theorem holds_less {n : Int} {s : Nat} {p q : Int → Bool} (h : ∀ x, 0 ≤ x → x < n → (p x = true ↔ hasB (s : Int) x = true ∨ q x = true)) : ∀ (d : Nat) (T : Tree), WF n d T → (holdsT d p T = true ↔ deadT (lessT s d T) = true ∨ holdsT d q (lessT s d T) = true)
  | 0, T, w => w.elim
  | d + 1, .mk thr ns is, w => by
    obtain ⟨h1, _, _, _, h5, _, hi⟩ := w
    have e1 := cnt_same p id (hasB (s : Int)) q ns (fun x hx => h x (h5 x hx).1 (h5 x hx).2)
    have e2 := cnt_same (holdsT d p) (lessT s d) deadT (holdsT d q) is (fun T hT => holds_less h d T (hi T hT))
    rw [List.map_id] at e1
    show decide (thr ≤ ((cnt p ns + cnt (holdsT d p) is : Nat) : Int)) = true ↔ decide ((((thr.toNat - cnt (hasB (s : Int)) ns - cnt deadT (is.map (lessT s d)) : Nat)) : Int) ≤ 0) = true ∨ decide ((((thr.toNat - cnt (hasB (s : Int)) ns - cnt deadT (is.map (lessT s d)) : Nat)) : Int) ≤ ((cnt q (ns.filter (fun k => !hasB (s : Int) k)) + cnt (holdsT d q) ((is.map (lessT s d)).filter (fun T => !deadT T)) : Nat) : Int)) = true
    rw [decide_eq_true_iff, decide_eq_true_iff, decide_eq_true_iff, e1, e2]
    omega
theorem del_holds {n : Int} {s k : Nat} {p q : Int → Bool} (hk : q (k : Int) = true) (h : ∀ x, 0 ≤ x → x < n → (p x = true ↔ hasB (s : Int) x = true ∨ q x = true)) (d : Nat) (T : Tree) (w : WF n (d + 1) T) : holdsT (d + 1) q (delT s k (d + 1) T) = holdsT (d + 1) p T := by
  rw [Bool.eq_iff_iff, holds_less h _ _ w]
  unfold delT
  cases hd : deadT (lessT s (d + 1) T)
  · simp
  · rw [if_pos rfl]
    have : holdsT (d + 1) q (.mk 1 [(k : Int)] []) = true := by
      show decide ((1 : Int) ≤ ((cnt q [(k : Int)] + cnt (holdsT d q) [] : Nat) : Int)) = true
      unfold cnt
      simp [List.filter_cons, hk]
    simp [this]
theorem sat_of {d : Nat} {T : Tree} {s : Nat} (hs : s < 1024) : satB d T (s : Int) = holdsT d (hasB (s : Int)) T := by
  unfold satB
  rw [setB_iff.2 ⟨by omega, by omega⟩, Bool.true_and]
/-- What deletion means. -/
theorem del_means {n : Int} (hn : n ≤ 10) {g k z y : Nat} {d : Nat} {T : Tree} (w : WF n (d + 1) T) (hg : g < 1024) (hz : z < 1024) (hy : y < 1024) (hk : k < 10) (hkz : z.testBit k = true) (hb : ∀ K, K < 10 → y.testBit K = (g.testBit K || z.testBit K)) : satB (d + 1) (delT g k (d + 1) T) (z : Int) = satB (d + 1) T (y : Int) := by
  rw [sat_of hz, sat_of hy]
  refine del_holds (by rw [hasB_bit hz hk]; exact hkz) (fun x h0 h1 => ?_) d T w
  obtain ⟨X, rfl⟩ := Int.eq_ofNat_of_zero_le h0
  rw [hasB_bit hy (by omega), hasB_bit hg (by omega), hasB_bit hz (by omega), hb X (by omega), Bool.or_eq_true]
/-- Deletion makes it easier. -/
theorem del_grows {n : Int} (hn : n ≤ 10) {g k z : Nat} {d : Nat} {T : Tree} (w : WF n (d + 1) T) (hg : g < 1024) (hz : z < 1024) (hk : k < 10) (hkz : z.testBit k = true) (hkg : g.testBit k = false) (h : satB (d + 1) T (z : Int) = true) : satB (d + 1) (delT g k (d + 1) T) ((minS z g : Nat) : Int) = true := by
  have hzg : z ||| g < 1024 := Nat.or_lt_two_pow (n := 10) hz hg
  rw [del_means hn w hg (minS_lt hz) hzg hk (by rw [minS_bit, hkz, hkg]; rfl) (fun K _ => by
    rw [Nat.testBit_or, minS_bit]
    cases z.testBit K <;> cases g.testBit K <;> rfl)]
  exact sat_sub hzg (fun K hK => by rw [Nat.testBit_or, hK]; rfl) h
end Go.Proofs.YtcngpfffhjbiaaaDoor

namespace Go.Proofs.YtcngpfffhjbiaaaDoor
set_option linter.unusedVariables false
open Go.RowKit

theorem foldOr_bit : ∀ (l : List Nat) (s K : Nat), (l.foldl (· ||| ·) s).testBit K = (s.testBit K || l.any (fun x => x.testBit K))
  | [], s, K => by simp
  | x :: l, s, K => by
    rw [List.foldl_cons, foldOr_bit l _ K, Nat.testBit_or, List.any_cons, Bool.or_assoc]
theorem usesT_bit {n : Int} (hn : n ≤ 10) {d : Nat} {thr : Int} {ns : List Int} {is : List Tree} (w : WF n (d + 1) (.mk thr ns is)) (K : Nat) :
    (usesT (d + 1) (.mk thr ns is)).testBit K = (decide ((K : Int) ∈ ns) || is.any (fun T => (usesT d T).testBit K)) := by
  show ((is.map (usesT d)).foldl (· ||| ·) (nodesS ns)).testBit K = _
  rw [foldOr_bit, nodesS_bit K (w.inR hn), List.any_map]
  rfl
end Go.Proofs.YtcngpfffhjbiaaaDoor

namespace Go.Proofs.YtcngpfffhjbiaaaDoor
set_option linter.unusedVariables false
open Go.RowKit

set_option maxRecDepth 100000 in
set_option maxHeartbeats 4000000 in
theorem copy_one : ∀ (d : Nat), OneC 27 d (fun _ => True) (fun T => T)
  | 0 => fun P T x0 x1 x2 w h _ => h.elim
  | d + 1 => by
    have ih := copy_one d
    intro P T x0 x1 x2 w h hW
    obtain ⟨thr, ns, is⟩ := T
    obtain ⟨A, c, B, c', rfl, rfl, rfl, hn, hi, hbx⟩ := h.boxed
    obtain ⟨_, _, _, hN, hL⟩ := h.parts
    have HIH := Lib.hid ih
    have hb2 := balloc (balloc (bref w) (.cells #[.int .i64 thr, .slice A ns.length c, .slice B is.length c'] 28)) (.cells #[.int .i64 0, .slice none 0 0, .slice none 0 0] 28)
    have hS0 : CopyS w w.heap.size (w.heap.size + 1) thr (.slice A ns.length c) (.slice B is.length c') d ns is ((w.alloc (.cells #[.int .i64 thr, .slice A ns.length c, .slice B is.length c'] 28)).alloc (.cells #[.int .i64 0, .slice none 0 0, .slice none 0 0] 28)) := by
      refine ⟨⟨0, .slice none 0 0, .slice none 0 0, ?_⟩, (hN.both (fun _ _ _ => rfl) (fun k hk _ => hk)).below hb2, (hL.both (fun _ _ _ => rfl) (fun k hk _ => hk)).below hb2, ?_, hb2⟩
      · have := heap_alloc_new (w.alloc (.cells #[.int .i64 thr, .slice A ns.length c, .slice B is.length c'] 28)) (.cells #[.int .i64 0, .slice none 0 0, .slice none 0 0] 28)
        show _ = _
        simpa using this
      · exact (Below.heap_alloc _ _ _ hbx.lt).trans hbx.heap
    have HS0 := Lib.hid hS0
    clear h hbx ih hN hL hW hb2 hS0
    go_enter Tryd.func27, Tryd.ntmps27
    go_upto_region 1 with fail
    generalize (w.alloc (.cells #[.int .i64 thr, .slice A ns.length c, .slice B is.length c'] 28)).alloc (.cells #[.int .i64 0, .slice none 0 0, .slice none 0 0] 28) = W1 at *
    generalize hgg : w.heap.size = g at *
    have HGG := Lib.hid hgg
    clear hgg
    have hr1 : g + 1 < W1.heap.size := by
      obtain ⟨⟨y, u1, u2, h1⟩, _⟩ := HS0.out
      exact h1.lt
    have hS6 := Lib.hid (show W1.drew.cell? ⟨g, 0, none⟩ = some (.int .i64 thr) ∧ W1.drew.cell? ⟨g, 1, none⟩ = some (.slice A ns.length c) ∧ W1.drew.cell? ⟨g, 2, none⟩ = some (.slice B is.length c') ∧ CopyS w g (g + 1) thr (.slice A ns.length c) (.slice B is.length c') d ns is W1.drew from ⟨HS0.out.2.2.2.1.cs.1, HS0.out.2.2.2.1.cs.2.1, HS0.out.2.2.2.1.cs.2.2, copyS_drew HS0.out⟩)
    go_region_held3 (fun W => W.cell? ⟨g, 0, none⟩ = some (.int .i64 thr) ∧ W.cell? ⟨g, 1, none⟩ = some (.slice A ns.length c) ∧ W.cell? ⟨g, 2, none⟩ = some (.slice B is.length c') ∧ CopyS w g (g + 1) thr (.slice A ns.length c) (.slice B is.length c') d ns is W) (first | exact hS6.out | exact copyB (by assumption) hbK | exact copySet (by assumption) (by omega) (by rw [HGG.out]; omega) _ _ _ | go_keep)
      (first
        | (go_at_call 43; refine (flat_run _ _ ns _ hn (by exact copyN (by assumption))).mono ?_; rintro e WK ⟨vf, rfl, hNf, hbK⟩; obtain ⟨Af, cf, rfl⟩ := hNf.slice; have hSK := copyB (by assumption) hbK; obtain ⟨⟨y', u1', u2', hOK⟩, _⟩ := hSK.2.2.2; obtain ⟨p0, p1, p2⟩ := hOK.cs; have pf0 := hOK.fr 0; have pf1 := hOK.fr 1; have pf2 := hOK.fr 2; have hzf := hOK.lt)
        | (go_at_call 44; refine (listTrust_run d (fun _ => True) (fun T => T) HIH.out _ _ is _ hi (by exact copyL (by assumption)) (fun _ _ => trivial)).mono ?_; rintro e WK ⟨vl, rfl, hLl, hbK⟩; obtain ⟨Al, cl, rfl⟩ := hLl.slice; have hSK := copyB (by assumption) hbK; obtain ⟨⟨y', u1', u2', hOK⟩, _⟩ := hSK.2.2.2; obtain ⟨p0, p1, p2⟩ := hOK.cs; have pf0 := hOK.fr 0; have pf1 := hOK.fr 1; have pf2 := hOK.fr 2))
    have hF : WK.cell? ⟨g, 0, none⟩ = some (.int .i64 thr) ∧ WK.cell? ⟨g, 1, none⟩ = some (.slice A ns.length c) ∧ WK.cell? ⟨g, 2, none⟩ = some (.slice B is.length c') ∧ CopyS w g (g + 1) thr (.slice A ns.length c) (.slice B is.length c') d ns is WK := hSK
    have hbF : Below w.heap.size w WK := hF.2.2.2.2.2.2.2
    have hNF := NodesAt.both (Q := fun b => g ≤ b ∧ b ≠ g + 1) (NodesAt.below hNf hbK) (fun _ _ _ => rfl) (fun k hk hP => by have : W1.heap.size ≤ k := hP; omega)
    have hLF := ListT.both (Q := fun b => g ≤ b ∧ b ≠ g + 1) hLl (fun _ _ _ => rfl) (fun k hk hP => by omega)
    have far : ∀ q, q ≠ g + 1 → (((WK.setCell ⟨g + 1, 0, none⟩ (.int .i64 thr)).setCell ⟨g + 1, 1, none⟩ (.slice Af ns.length cf)).setCell ⟨g + 1, 2, none⟩ (.slice Al is.length cl)).heap[q]? = WK.heap[q]? := fun q hq =>
      (Below.heap_setCell _ _ _ _ (by simpa using hq)).trans ((Below.heap_setCell _ _ _ _ (by simpa using hq)).trans (Below.heap_setCell _ _ _ _ (by simpa using hq)))
    have hNF2 := NodesAt.both (Q := fun b => g ≤ b) hNF (fun k _ hk => far k hk.2) (fun k _ hk => hk.1)
    have hLF2 := ListT.both (Q := fun b => g ≤ b) hLF (fun k _ hk => far k hk.2) (fun k _ hk => hk.1)
    have hbF2 := bset (bset (bset hbF (p := ⟨g + 1, 0, none⟩) (by rw [HGG.out]; simp) (.int .i64 thr)) (p := ⟨g + 1, 1, none⟩) (by rw [HGG.out]; simp) (.slice Af ns.length cf)) (p := ⟨g + 1, 2, none⟩) (by rw [HGG.out]; simp) (.slice Al is.length cl)
    have HOK := Lib.hid hOK
    have HNF2 := Lib.hid hNF2
    have HLF2 := Lib.hid hLF2
    have HBF2 := Lib.hid hbF2
    clear hNF hLF far hNF2 hLF2 hbF2 hF hSK hbF
    go_wp2_with fail
    refine bodyPost_ret (v := .agg #[.int .i64 thr, .slice Af ns.length cf, .slice Al is.length cl]) ?_ rfl ⟨_, _, _, rfl, ?_, HBF2.out⟩
    · simp [results, Tryd.results27, go_sem, p0, p1, p2]
    · rw [HGG.out]
      have h := TAt.of_parts (thr := thr) hn (by simpa using hi) HNF2.out HLF2.out
      simpa using h

end Go.Proofs.YtcngpfffhjbiaaaDoor

namespace Go.Proofs.YtcngpfffhjbiaaaDoor
set_option linter.unusedVariables false
set_option linter.unusedSimpArgs false
open Go.RowKit

theorem own_down {W : World} {B B' n e size : Nat} {v : Value} {xs : List Value} (h : W.ownsRow B e size v n xs) (hb : B' ≤ B) : W.ownsRow B' e size v n xs := by
  refine ⟨h.1, ?_⟩
  rcases h.2 with hn | ⟨g, cap, cur, h1, h2, h3⟩
  · exact .inl hn
  · exact .inr ⟨g, cap, cur, h1, by omega, h3⟩

/-- The world of data.Member: the box g, the result g + 1. -/
def MemC (w : World) (g d : Nat) (b : Bool) (t : Int) (v1 v2 : Value) (T : Tree) (W : World) : Prop :=
  W.heap[g]? = some (.cells #[.bool b, .int .i64 t, v1, v2] 49 (0, 0)) ∧ (∃ r0 r1 r2 r3, W.heap[g + 1]? = some (.cells #[r0, r1, r2, r3] 49 (0, 0))) ∧ TAt (fun q => q < g) d W (.int .i64 t) v1 v2 T ∧ Below w.heap.size w W

theorem MemC.bel {w W W' : World} {g d : Nat} {b : Bool} {t : Int} {v1 v2 : Value} {T : Tree} (h : MemC w g d b t v1 v2 T W) (hb : Below W.heap.size W W') : MemC w g d b t v1 v2 T W' := by
  obtain ⟨h1, ⟨r0, r1, r2, r3, h2⟩, h3, h4⟩ := h
  exact ⟨(hb.block _ (Array.getElem?_eq_some_iff.1 h1).1).trans h1, ⟨r0, r1, r2, r3, (hb.block _ (Array.getElem?_eq_some_iff.1 h2).1).trans h2⟩, h3.below hb, bstep h4 hb⟩

theorem MemC.cs {w W : World} {g d : Nat} {b : Bool} {t : Int} {v1 v2 : Value} {T : Tree} (h : MemC w g d b t v1 v2 T W) : W.cell? ⟨g, 0, none⟩ = some (.bool b) ∧ W.cell? ⟨g, 1, none⟩ = some (.int .i64 t) ∧ W.cell? ⟨g, 2, none⟩ = some v1 ∧ W.cell? ⟨g, 3, none⟩ = some v2 ∧ MemC w g d b t v1 v2 T W :=
  ⟨cell_of_row _ _ 0 _ _ (0, 0) h.1, cell_of_row _ _ 1 _ _ (0, 0) h.1, cell_of_row _ _ 2 _ _ (0, 0) h.1, cell_of_row _ _ 3 _ _ (0, 0) h.1, h⟩

theorem keepMC {w W W' : World} {g d : Nat} {b : Bool} {t : Int} {v1 v2 : Value} {T : Tree}
    (h : W.cell? ⟨g, 0, none⟩ = some (.bool b) ∧ W.cell? ⟨g, 1, none⟩ = some (.int .i64 t) ∧ W.cell? ⟨g, 2, none⟩ = some v1 ∧ W.cell? ⟨g, 3, none⟩ = some v2 ∧ MemC w g d b t v1 v2 T W) (hb : Below W.heap.size W W') :
    W'.cell? ⟨g, 0, none⟩ = some (.bool b) ∧ W'.cell? ⟨g, 1, none⟩ = some (.int .i64 t) ∧ W'.cell? ⟨g, 2, none⟩ = some v1 ∧ W'.cell? ⟨g, 3, none⟩ = some v2 ∧ MemC w g d b t v1 v2 T W' := (h.2.2.2.2.bel hb).cs

theorem tatMC {w W : World} {g d : Nat} {b : Bool} {t : Int} {v1 v2 : Value} {T : Tree}
    (h : W.cell? ⟨g, 0, none⟩ = some (.bool b) ∧ W.cell? ⟨g, 1, none⟩ = some (.int .i64 t) ∧ W.cell? ⟨g, 2, none⟩ = some v1 ∧ W.cell? ⟨g, 3, none⟩ = some v2 ∧ MemC w g d b t v1 v2 T W) : TAt (fun q => q < g) d W (.int .i64 t) v1 v2 T := h.2.2.2.2.2.2.1

theorem szMC {w W : World} {g d : Nat} {b : Bool} {t : Int} {v1 v2 : Value} {T : Tree}
    (h : W.cell? ⟨g, 0, none⟩ = some (.bool b) ∧ W.cell? ⟨g, 1, none⟩ = some (.int .i64 t) ∧ W.cell? ⟨g, 2, none⟩ = some v1 ∧ W.cell? ⟨g, 3, none⟩ = some v2 ∧ MemC w g d b t v1 v2 T W) : g + 2 ≤ W.heap.size := by
  obtain ⟨r0, r1, r2, r3, h2⟩ := h.2.2.2.2.2.1
  exact (Array.getElem?_eq_some_iff.1 h2).1

theorem setMC {w W : World} {g d : Nat} {b : Bool} {t : Int} {v1 v2 : Value} {T : Tree}
    (h : W.cell? ⟨g, 0, none⟩ = some (.bool b) ∧ W.cell? ⟨g, 1, none⟩ = some (.int .i64 t) ∧ W.cell? ⟨g, 2, none⟩ = some v1 ∧ W.cell? ⟨g, 3, none⟩ = some v2 ∧ MemC w g d b t v1 v2 T W) (hg : w.heap.size = g) (a0 a1 a2 a3 : Value) :
    ((((W.setCell ⟨g + 1, 0, none⟩ a0).setCell ⟨g + 1, 1, none⟩ a1).setCell ⟨g + 1, 2, none⟩ a2).setCell ⟨g + 1, 3, none⟩ a3).cell? ⟨g, 0, none⟩ = some (.bool b) ∧ ((((W.setCell ⟨g + 1, 0, none⟩ a0).setCell ⟨g + 1, 1, none⟩ a1).setCell ⟨g + 1, 2, none⟩ a2).setCell ⟨g + 1, 3, none⟩ a3).cell? ⟨g, 1, none⟩ = some (.int .i64 t) ∧ ((((W.setCell ⟨g + 1, 0, none⟩ a0).setCell ⟨g + 1, 1, none⟩ a1).setCell ⟨g + 1, 2, none⟩ a2).setCell ⟨g + 1, 3, none⟩ a3).cell? ⟨g, 2, none⟩ = some v1 ∧ ((((W.setCell ⟨g + 1, 0, none⟩ a0).setCell ⟨g + 1, 1, none⟩ a1).setCell ⟨g + 1, 2, none⟩ a2).setCell ⟨g + 1, 3, none⟩ a3).cell? ⟨g, 3, none⟩ = some v2 ∧ MemC w g d b t v1 v2 T ((((W.setCell ⟨g + 1, 0, none⟩ a0).setCell ⟨g + 1, 1, none⟩ a1).setCell ⟨g + 1, 2, none⟩ a2).setCell ⟨g + 1, 3, none⟩ a3) := by
  obtain ⟨h1, ⟨r0, r1, r2, r3, h2⟩, h3, h4⟩ := h.2.2.2.2
  have far : ∀ q, q ≠ g + 1 → ((((W.setCell ⟨g + 1, 0, none⟩ a0).setCell ⟨g + 1, 1, none⟩ a1).setCell ⟨g + 1, 2, none⟩ a2).setCell ⟨g + 1, 3, none⟩ a3).heap[q]? = W.heap[q]? := fun q hq =>
    (Below.heap_setCell _ _ _ _ (by simpa using hq)).trans ((Below.heap_setCell _ _ _ _ (by simpa using hq)).trans ((Below.heap_setCell _ _ _ _ (by simpa using hq)).trans (Below.heap_setCell _ _ _ _ (by simpa using hq))))
  refine MemC.cs ⟨(far g (by omega)).trans h1, ⟨a0, a1, a2, a3, ?_⟩, h3.keep (fun q _ hq => far q (by omega)), ?_⟩
  · simp [World.setCell, Array.getElem?_modify, h2]
  · exact bset (bset (bset (bset h4 (p := ⟨g + 1, 0, none⟩) (by show w.heap.size ≤ g + 1; omega) _) (p := ⟨g + 1, 1, none⟩) (by show w.heap.size ≤ g + 1; omega) _) (p := ⟨g + 1, 2, none⟩) (by show w.heap.size ≤ g + 1; omega) _) (p := ⟨g + 1, 3, none⟩) (by show w.heap.size ≤ g + 1; omega) _

/-- The contract of one member's copy. -/
def OneM (d : Nat) : Prop := ∀ (P : Nat → Prop) (b : Bool) (T : Tree) (x0 x1 x2 : Value) (w : World), TAt P d w x0 x1 x2 T →
    Calls Tryd.prog 51 #[.agg #[.bool b, x0, x1, x2]] w fun e w' => ∃ y0 y1 y2, e = .returned (.agg #[.bool b, y0, y1, y2]) ∧ TAt (fun q => w.heap.size ≤ q) d w' y0 y1 y2 T ∧ Below w.heap.size w w'

set_option maxRecDepth 100000 in
set_option maxHeartbeats 4000000 in
theorem member_run (d : Nat) : OneM d := by
  intro P b T x0 x1 x2 w h
  obtain ⟨t, A1, n1, c1, A2, n2, c2, rfl, rfl, rfl⟩ := h.form
  have hb2 : Below w.heap.size w ((w.alloc (.cells #[.bool b, .int .i64 t, .slice A1 n1 c1, .slice A2 n2 c2] 49)).alloc (.cells #[.bool false, .int .i64 0, .slice none 0 0, .slice none 0 0] 49)) := balloc (balloc (bref w) _) _
  have HM := Lib.hid (show MemC w w.heap.size d b t (.slice A1 n1 c1) (.slice A2 n2 c2) T ((w.alloc (.cells #[.bool b, .int .i64 t, .slice A1 n1 c1, .slice A2 n2 c2] 49)).alloc (.cells #[.bool false, .int .i64 0, .slice none 0 0, .slice none 0 0] 49)) from
    ⟨alloc_on (alloc_at rfl), ⟨_, _, _, _, alloc_at (alloc_sz _ _)⟩, (h.both (Q := fun q => q < w.heap.size) (fun _ _ _ => rfl) (fun k hk _ => hk)).below hb2, hb2⟩)
  have hsz : ((w.alloc (.cells #[.bool b, .int .i64 t, .slice A1 n1 c1, .slice A2 n2 c2] 49)).alloc (.cells #[.bool false, .int .i64 0, .slice none 0 0, .slice none 0 0] 49)).heap.size = w.heap.size + 2 := by rw [alloc_sz, alloc_sz]
  clear h hb2
  go_enter Tryd.func51, Tryd.ntmps51
  go_upto_region 1 with fail
  generalize ((w.alloc (.cells #[.bool b, .int .i64 t, .slice A1 n1 c1, .slice A2 n2 c2] 49)).alloc (.cells #[.bool false, .int .i64 0, .slice none 0 0, .slice none 0 0] 49)) = W1 at *
  generalize hg : w.heap.size = g at *
  have HG := Lib.hid hg
  clear hg
  have hS6 := Lib.hid (show W1.drew.cell? ⟨g, 0, none⟩ = some (.bool b) ∧ W1.drew.cell? ⟨g, 1, none⟩ = some (.int .i64 t) ∧ W1.drew.cell? ⟨g, 2, none⟩ = some (.slice A1 n1 c1) ∧ W1.drew.cell? ⟨g, 3, none⟩ = some (.slice A2 n2 c2) ∧ MemC w g d b t (.slice A1 n1 c1) (.slice A2 n2 c2) T W1.drew from (HM.out.bel (W' := W1.drew) ⟨rfl, rfl, rfl, Nat.le_refl _, fun _ _ => rfl⟩).cs)
  go_region_held3 (fun W => W.cell? ⟨g, 0, none⟩ = some (.bool b) ∧ W.cell? ⟨g, 1, none⟩ = some (.int .i64 t) ∧ W.cell? ⟨g, 2, none⟩ = some (.slice A1 n1 c1) ∧ W.cell? ⟨g, 3, none⟩ = some (.slice A2 n2 c2) ∧ MemC w g d b t (.slice A1 n1 c1) (.slice A2 n2 c2) T W) (first | exact hS6.out | exact hSK | exact keepMC (by assumption) hbK | exact setMC (by assumption) (by exact HG.out) _ _ _ _ | go_keep)
    (first
      | (go_at_call 27; refine (copy_one d _ T _ _ _ _ (by exact tatMC (by assumption)) trivial).mono ?_; rintro e WK ⟨y0, y1, y2, rfl, hTK0, hbK⟩; have hTK := TAt.imp (Q := fun q => g + 2 ≤ q) (fun q _ hq => Nat.le_trans (szMC (w := w) (g := g) (d := d) (b := b) (t := t) (v1 := .slice A1 n1 c1) (v2 := .slice A2 n2 c2) (T := T) (by assumption)) hq) hTK0; obtain ⟨t2, B1, m1, e1, B2, m2, e2, rfl, rfl, rfl⟩ := hTK.form; have hSK := keepMC (by assumption) hbK; obtain ⟨r0, r1, r2, r3, hOK⟩ := hSK.2.2.2.2.2.1; have p0 := cell_of_row WK (g + 1) 0 _ _ (0, 0) hOK; have p1 := cell_of_row WK (g + 1) 1 _ _ (0, 0) hOK; have p2 := cell_of_row WK (g + 1) 2 _ _ (0, 0) hOK; have p3 := cell_of_row WK (g + 1) 3 _ _ (0, 0) hOK; have f0 : WK.frozen? ⟨g + 1, 0, none⟩ = false := (by simp [World.frozen?, hOK]); have f1 : WK.frozen? ⟨g + 1, 1, none⟩ = false := (by simp [World.frozen?, hOK]); have f2 : WK.frozen? ⟨g + 1, 2, none⟩ = false := (by simp [World.frozen?, hOK]); have f3 : WK.frozen? ⟨g + 1, 3, none⟩ = false := (by simp [World.frozen?, hOK])))
  have hF := setMC hSK HG.out (.bool b) (.int .i64 t2) (.slice B1 m1 e1) (.slice B2 m2 e2)
  have hw1 : W1.heap.size = g + 2 := hsz
  go_wp2_with fail
  refine bodyPost_ret (v := .agg #[.bool b, .int .i64 t2, .slice B1 m1 e1, .slice B2 m2 e2]) ?_ rfl ⟨_, _, _, rfl, ?_, ?_⟩
  · simp [results, Tryd.results51, go_sem, p0, p1, p2, p3]
  · exact TAt.both (fun q _ hq => (Below.heap_setCell _ _ _ _ (by simp; omega)).trans ((Below.heap_setCell _ _ _ _ (by simp; omega)).trans ((Below.heap_setCell _ _ _ _ (by simp; omega)).trans (Below.heap_setCell _ _ _ _ (by simp; omega))))) (fun q _ hq => by have := HG.out; omega) _ _ _ _ _ hTK
  · exact hF.2.2.2.2.2.2.2

set_option maxHeartbeats 4000000 in
set_option maxRecDepth 100000 in
theorem listMember_run (d : Nat) (P : Nat → Prop) (v : Value) (ms : List Mem) (w : World) (hn : ms.length ≤ 10) (h : MemsAt P d w v ms) :
    Calls Tryd.prog 50 #[v, .func (.func 51) #[] #[]] w fun e w' => ∃ v', e = .returned v' ∧ GRow (fun q => w.heap.size ≤ q) w.heap.size d w' v' ms ∧ Below w.heap.size w w' := by
  obtain ⟨i0, hi, hz0, hz1, hz2⟩ := info_parts infoMember
  obtain ⟨A, c, rfl, h1⟩ := h
  have H1 := Lib.hid h1
  clear h1
  by_cases h0 : ms.length = 0
  · have hl0 : ((ms.length : Int) == 0) = true := by rw [h0]; rfl
    have hE := Lib.hid (List.eq_nil_of_length_eq_zero h0)
    clear h0
    go_enter Tryd.func50, Tryd.ntmps50
    go_wp2_with fail
    go_ret
    exact ⟨_, rfl, by rw [hE.out]; exact GRow.nil _ _ _ _, bref _⟩
  · have hl0 : ((ms.length : Int) == 0) = false := by rw [beq_eq_false_iff_ne]; omega
    go_enter Tryd.func50, Tryd.ntmps50
    go_wp2_with (at_make; refine wpList_make_full _ rfl _ _ 38 rfl w.heap.size 49 i0 (.agg #[.bool false, .int .i64 0, .slice none 0 0, .slice none 0 0]) 4 Tryd.underlying38 hi hz0 hz1 .i64 .i64 _ _ ms.length rfl rfl rfl rfl (by rw [hz2]; omega) (by unfold maxLen; omega) (Nat.le_refl _) ?_; intro w1 hown hgrow)
    have hcs1 := hown.1
    have HB1 := Lib.hid (show Below w.heap.size w w1 from (bref w).grown hgrow (Nat.le_refl _) (fun j hj => by cases hj))
    have hgl : w.heap.size < w1.heap.size := (hown.lt w.heap.size rfl).2
    go_loopw [16] (fun t wr => ∃ (k : Nat) (cs : List Value), k ≤ ms.length ∧ t = .int .i64 k ∧ Hid (wr.ownsRow w.heap.size 49 4 (.slice (some ⟨w.heap.size, 0, none⟩) ms.length ms.length) ms.length cs) ∧
      Hid (∀ j (m : Mem), j < k → ms[j]? = some m → ∃ y0 y1 y2, cs[j * 4]? = some (.bool m.1) ∧ cs[j * 4 + 1]? = some y0 ∧ cs[j * 4 + 2]? = some y1 ∧ cs[j * 4 + 3]? = some y2 ∧ TAt (fun b => w.heap.size < b) d wr y0 y1 y2 m.2) ∧ Hid (Below w.heap.size w wr)) (fun t _ => ms.length - (intOf t).toNat)
    case atStart => exact ⟨0, _, by omega, rfl, Lib.hid hown, Lib.hid (fun j T hj => by omega), HB1⟩
    case round =>
      clear hown hgrow hcs1 HB1 hgl
      obtain ⟨k, cs, hk, rfl, hO, hY, hB⟩ := hrel
      have hcl := hO.out.1
      have hgl := (hO.out.lt w.heap.size rfl).2
      by_cases hlt : k < ms.length
      · obtain ⟨m, hT⟩ : ∃ m, ms[k]? = some m := ⟨_, List.getElem?_eq_getElem hlt⟩
        obtain ⟨b, off, x0, x1, x2, rfl, hPb, cb0, c0, c1, c2, hTk⟩ := H1.out k m hT
        obtain ⟨t', A', n', ca, B', m', cb, rfl, rfl, rfl⟩ := hTk.form
        obtain ⟨bm, T⟩ := m
        have hbl := cell_lt c0
        simp only at hbl
        have eb : wr.cell? ⟨b, off + k * 4, none⟩ = some (.bool bm) := (hB.out.cell (p := ⟨b, off + k * 4, none⟩) hbl).trans cb0
        have e0 : wr.cell? ⟨b, off + k * 4 + 1, none⟩ = some (.int .i64 t') := (hB.out.cell (p := ⟨b, off + k * 4 + 1, none⟩) hbl).trans c0
        have e1 : wr.cell? ⟨b, off + k * 4 + 2, none⟩ = some (.slice A' n' ca) := (hB.out.cell (p := ⟨b, off + k * 4 + 2, none⟩) hbl).trans c1
        have e2 : wr.cell? ⟨b, off + k * 4 + 3, none⟩ = some (.slice B' m' cb) := (hB.out.cell (p := ⟨b, off + k * 4 + 3, none⟩) hbl).trans c2
        have hTr := Lib.hid ((hTk.below hB.out).below (balloc (bref wr) (.cells #[.bool bm, .int .i64 t', .slice A' n' ca, .slice B' m' cb] 49)))
        have HT := Lib.hid hT
        have hO1 := Lib.hid (hO.out.alloc (.cells #[.bool bm, .int .i64 t', .slice A' n' ca, .slice B' m' cb] 49))
        have hB1 := Lib.hid (balloc hB.out (.cells #[.bool bm, .int .i64 t', .slice A' n' ca, .slice B' m' cb] 49))
        have HF := Lib.hid (member_run d P bm T _ _ _ _ hTr.out)
        clear cb0 c0 c1 c2 hTk hT
        go_wp2_with fail
        refine HF.out.mono ?_
        rintro e w2 ⟨z0, z1, z2, rfl, hz, hb2⟩
        obtain ⟨t2, A2, n2, ca2, B2, m2, cb2, rfl, rfl, rfl⟩ := hz.form
        have hO2 := hO1.out.kept (grown_below (r := none) hb2) (.inr (by simp [Value.ownBlock]))
        have fb : w2.cell? ⟨w.heap.size, k * 4, none⟩ = cs[k * 4]? := hO2.cellAt (k * 4) (by omega)
        have f0 : w2.cell? ⟨w.heap.size, k * 4 + 1, none⟩ = cs[k * 4 + 1]? := hO2.cellAt (k * 4 + 1) (by omega)
        have f1 : w2.cell? ⟨w.heap.size, k * 4 + 2, none⟩ = cs[k * 4 + 2]? := hO2.cellAt (k * 4 + 2) (by omega)
        have f2 : w2.cell? ⟨w.heap.size, k * 4 + 3, none⟩ = cs[k * 4 + 3]? := hO2.cellAt (k * 4 + 3) (by omega)
        rw [List.getElem?_eq_getElem (by omega)] at fb f0 f1 f2
        have gb := hO2.frozenAt (k * 4)
        have g0 := hO2.frozenAt (k * 4 + 1)
        have g1 := hO2.frozenAt (k * 4 + 2)
        have g2 := hO2.frozenAt (k * 4 + 3)
        generalize cs[k * 4]'(by omega) = ub at fb
        generalize cs[k * 4 + 1]'(by omega) = u0 at f0
        generalize cs[k * 4 + 2]'(by omega) = u1 at f1
        generalize cs[k * 4 + 3]'(by omega) = u2 at f2
        have hO3 := Lib.hid (((((hO2.stored (k * 4) (.bool bm)).1.stored (k * 4 + 1) (.int .i64 t2)).1.stored (k * 4 + 2) (.slice A2 n2 ca2)).1.stored (k * 4 + 3) (.slice B2 m2 cb2)).1)
        have hB2 := Lib.hid (bset (bset (bset (bset (bstep hB1.out hb2) (p := ⟨w.heap.size, k * 4, none⟩) (Nat.le_refl _) (.bool bm)) (p := ⟨w.heap.size, k * 4 + 1, none⟩) (Nat.le_refl _) (.int .i64 t2)) (p := ⟨w.heap.size, k * 4 + 2, none⟩) (Nat.le_refl _) (.slice A2 n2 ca2)) (p := ⟨w.heap.size, k * 4 + 3, none⟩) (Nat.le_refl _) (.slice B2 m2 cb2))
        have hfar : ∀ q, q ≠ w.heap.size → ((((w2.setCell ⟨w.heap.size, k * 4, none⟩ (.bool bm)).setCell ⟨w.heap.size, k * 4 + 1, none⟩ (.int .i64 t2)).setCell ⟨w.heap.size, k * 4 + 2, none⟩ (.slice A2 n2 ca2)).setCell ⟨w.heap.size, k * 4 + 3, none⟩ (.slice B2 m2 cb2)).heap[q]? = w2.heap[q]? := fun q hq =>
          (Below.heap_setCell _ _ _ _ (by simpa using hq)).trans ((Below.heap_setCell _ _ _ _ (by simpa using hq)).trans ((Below.heap_setCell _ _ _ _ (by simpa using hq)).trans (Below.heap_setCell _ _ _ _ (by simpa using hq))))
        have hY3 : Hid (∀ j (m : Mem), j < k + 1 → ms[j]? = some m → ∃ y0 y1 y2, ((((cs.set (k * 4) (.bool bm)).set (k * 4 + 1) (.int .i64 t2)).set (k * 4 + 2) (.slice A2 n2 ca2)).set (k * 4 + 3) (.slice B2 m2 cb2))[j * 4]? = some (.bool m.1) ∧ ((((cs.set (k * 4) (.bool bm)).set (k * 4 + 1) (.int .i64 t2)).set (k * 4 + 2) (.slice A2 n2 ca2)).set (k * 4 + 3) (.slice B2 m2 cb2))[j * 4 + 1]? = some y0 ∧ ((((cs.set (k * 4) (.bool bm)).set (k * 4 + 1) (.int .i64 t2)).set (k * 4 + 2) (.slice A2 n2 ca2)).set (k * 4 + 3) (.slice B2 m2 cb2))[j * 4 + 2]? = some y1 ∧ ((((cs.set (k * 4) (.bool bm)).set (k * 4 + 1) (.int .i64 t2)).set (k * 4 + 2) (.slice A2 n2 ca2)).set (k * 4 + 3) (.slice B2 m2 cb2))[j * 4 + 3]? = some y2 ∧
            TAt (fun b => w.heap.size < b) d ((((w2.setCell ⟨w.heap.size, k * 4, none⟩ (.bool bm)).setCell ⟨w.heap.size, k * 4 + 1, none⟩ (.int .i64 t2)).setCell ⟨w.heap.size, k * 4 + 2, none⟩ (.slice A2 n2 ca2)).setCell ⟨w.heap.size, k * 4 + 3, none⟩ (.slice B2 m2 cb2)) y0 y1 y2 m.2) := Lib.hid (by
          intro j mj hj hT'
          rcases Nat.lt_or_ge j k with hjk | hjk
          · obtain ⟨y0, y1, y2, ab, a0, a1, a2, a3⟩ := hY.out j mj hjk hT'
            refine ⟨y0, y1, y2, ?_, ?_, ?_, ?_, ?_⟩
            · rw [List.getElem?_set_ne (by omega), List.getElem?_set_ne (by omega), List.getElem?_set_ne (by omega), List.getElem?_set_ne (by omega)]; exact ab
            · rw [List.getElem?_set_ne (by omega), List.getElem?_set_ne (by omega), List.getElem?_set_ne (by omega), List.getElem?_set_ne (by omega)]; exact a0
            · rw [List.getElem?_set_ne (by omega), List.getElem?_set_ne (by omega), List.getElem?_set_ne (by omega), List.getElem?_set_ne (by omega)]; exact a1
            · rw [List.getElem?_set_ne (by omega), List.getElem?_set_ne (by omega), List.getElem?_set_ne (by omega), List.getElem?_set_ne (by omega)]; exact a2
            · exact TAt.keep (fun q _ hq => hfar q (by omega)) (TAt.below (TAt.below a3 (balloc (bref wr) (.cells #[.bool bm, .int .i64 t', .slice A' n' ca, .slice B' m' cb] 49))) hb2)
          · obtain rfl : j = k := by omega
            have hTT : mj = (bm, T) := by rw [HT.out] at hT'; exact (Option.some.inj hT').symm
            subst hTT
            refine ⟨_, _, _, ?_, ?_, ?_, ?_, TAt.both (fun q _ hq => hfar q (by simp at hq; omega)) (fun q _ hq => by simp at hq; omega) _ _ _ _ _ hz⟩
            · rw [List.getElem?_set_ne (by omega), List.getElem?_set_ne (by omega), List.getElem?_set_ne (by omega), List.getElem?_set_self (by omega)]
            · rw [List.getElem?_set_ne (by omega), List.getElem?_set_ne (by omega), List.getElem?_set_self (by simp; omega)]
            · rw [List.getElem?_set_ne (by omega), List.getElem?_set_self (by simp; omega)]
            · rw [List.getElem?_set_self (by simp; omega)])
        clear hO2 hz hb2 hfar
        go_wp2_with fail
        go_roundw
        case rel => exact ⟨k + 1, _, by omega, by go_num, hO3, hY3, hB2⟩
        case measure => simp [intOf]; omega
      · obtain rfl : k = ms.length := by omega
        go_wp2_with fail
        go_ret
        refine ⟨_, rfl, ⟨cs, hO.out, fun j m hm => ?_⟩, hB.out⟩
        obtain ⟨y0, y1, y2, ab, a0, a1, a2, a3⟩ := hY.out j m (List.getElem?_eq_some_iff.1 hm).1 hm
        exact ⟨y0, y1, y2, ab, a0, a1, a2, a3.imp (fun q _ hq => ⟨by omega, fun e => by simp [Value.ownBlock] at e; omega⟩)⟩

set_option maxHeartbeats 4000000 in
set_option maxRecDepth 100000 in
theorem pconfig_run (d : Nat) (P : Nat → Prop) (v : Value) (ms : List Mem) (w : World) (hn : ms.length ≤ 10) (h : MemsAt P d w v ms) :
    Calls Tryd.prog 36 #[.agg #[v]] w fun e w' => ∃ v', e = .returned (.agg #[v']) ∧ GRow (fun q => w.heap.size ≤ q) w.heap.size d w' v' ms ∧ Below w.heap.size w w' := by
  obtain ⟨A, c, rfl⟩ := h.slice
  have hb2 : Below w.heap.size w ((w.alloc (.cells #[.slice A ms.length c] 40)).alloc (.cells #[.slice none 0 0] 40)) := balloc (balloc (bref w) _) _
  have k0 : ((w.alloc (.cells #[.slice A ms.length c] 40)).alloc (.cells #[.slice none 0 0] 40)).heap[w.heap.size]? = some (.cells #[.slice A ms.length c] 40 (0, 0)) := alloc_on (alloc_at rfl)
  have k1 : ((w.alloc (.cells #[.slice A ms.length c] 40)).alloc (.cells #[.slice none 0 0] 40)).heap[w.heap.size + 1]? = some (.cells #[.slice none 0 0] 40 (0, 0)) := alloc_at (alloc_sz _ _)
  have hsz : ((w.alloc (.cells #[.slice A ms.length c] 40)).alloc (.cells #[.slice none 0 0] 40)).heap.size = w.heap.size + 2 := by rw [alloc_sz, alloc_sz]
  have H := Lib.hid (h.below hb2)
  have HB := Lib.hid hb2
  have K0 := Lib.hid k0
  have K1 := Lib.hid k1
  clear h hb2 k0 k1
  go_enter Tryd.func36, Tryd.ntmps36
  go_upto_region 1 with fail
  generalize ((w.alloc (.cells #[.slice A ms.length c] 40)).alloc (.cells #[.slice none 0 0] 40)) = W1 at *
  generalize hg : w.heap.size = g at *
  have HG := Lib.hid hg
  clear hg
  have c0 : W1.cell? ⟨g, 0, none⟩ = some (.slice A ms.length c) := cell_of_row _ _ 0 _ _ (0, 0) K0.out
  go_wp2_with fail
  refine (listMember_run d P _ ms _ hn H.out).mono ?_
  rintro e W2 ⟨v', rfl, hR, hb⟩
  have hms := hR.mems (P := fun _ => True) (fun _ _ => trivial)
  obtain ⟨A2, c2, rfl⟩ := hms.slice
  have K2 := Lib.hid ((hb.block (g + 1) (by omega)).trans K1.out)
  have z0 : W2.cell? ⟨g + 1, 0, none⟩ = some (.slice none 0 0) := cell_of_row _ _ 0 _ _ (0, 0) K2.out
  have zf : W2.frozen? ⟨g + 1, 0, none⟩ = false := by simp [World.frozen?, K2.out]
  have hzl := cell_lt z0
  have HR := Lib.hid hR
  have HB2 := Lib.hid (show Below w.heap.size w W2 from (by have h1 := HB.out; rw [← HG.out] at h1; exact h1.trans (hb.mono (by have := HG.out; omega))))
  have hw1 := hb.size
  clear hms hR hb c0
  go_wp2_with fail
  refine bodyPost_ret (v := .agg #[.slice A2 ms.length c2]) ?_ rfl ⟨_, rfl, ?_, ?_⟩
  · simp [results, Tryd.results36, go_sem, z0]
  · have h2 := HR.out
    obtain ⟨cs, h3, h4⟩ := h2
    have hk : ∀ q, W1.heap.size ≤ q → (W2.setCell ⟨g + 1, 0, none⟩ (.slice A2 ms.length c2)).heap[q]? = W2.heap[q]? := fun q hq => Below.heap_setCell _ _ _ _ (by simp; omega)
    refine ⟨cs, ?_, fun k m hm => ?_⟩
    · have h5 := own_keepG h3 (W' := W2.setCell ⟨g + 1, 0, none⟩ (.slice A2 ms.length c2)) (fun j _ hB hl => hk j hB)
      exact own_down h5 (by have := HG.out; omega)
    · obtain ⟨x0, x1, x2, e0, e1, e2, e3, e4⟩ := h4 k m hm
      exact ⟨x0, x1, x2, e0, e1, e2, e3, TAt.both (fun q _ hP => hk q hP.1) (fun q _ hP => ⟨by have := HG.out; omega, hP.2⟩) _ _ _ _ _ e4⟩
  · exact bset HB2.out (p := ⟨g + 1, 0, none⟩) (by show w.heap.size ≤ g + 1; have := HG.out; omega) _

end Go.Proofs.YtcngpfffhjbiaaaDoor

namespace Go.Proofs.YtcngpfffhjbiaaaDoor
set_option linter.unusedVariables false
set_option linter.unusedSimpArgs false
open Go.RowKit

def mixL (s : Nat) (ms : List Mem) (k : Nat) : List Mem := (delM s ms).take k ++ ms.drop k

theorem mixL_len (s : Nat) (ms : List Mem) (k : Nat) : (mixL s ms k).length = ms.length := by
  unfold mixL
  rw [List.length_append, List.length_take, List.length_drop, delM_len]
  omega

theorem mixL_get {s k : Nat} {ms : List Mem} {m : Mem} (h : ms[k]? = some m) : (mixL s ms k)[k]? = some m := by
  have hl := (List.getElem?_eq_some_iff.1 h).1
  unfold mixL
  rw [List.getElem?_append_right (by rw [List.length_take, delM_len]; omega), List.length_take, delM_len, Nat.min_eq_left (by omega), Nat.sub_self, List.getElem?_drop]
  exact h

theorem mixL_set {s k : Nat} {ms : List Mem} {m : Mem} (h : ms[k]? = some m) : (mixL s ms k).set k (delOne s k m) = mixL s ms (k + 1) := by
  have hl := (List.getElem?_eq_some_iff.1 h).1
  have hm := (List.getElem?_eq_some_iff.1 h).2
  have e1 : ms.drop k = m :: ms.drop (k + 1) := by rw [← hm]; exact List.drop_eq_getElem_cons hl
  have e2 := delM_take (s := s) h
  have e3 : ((delM s ms).take k).length = k := by rw [List.length_take, delM_len]; omega
  unfold mixL
  rw [e1, e2, List.set_append_right _ _ (by omega), e3, Nat.sub_self, List.set_cons_zero, List.append_assoc]
  rfl

theorem mixL_same {s k : Nat} {ms : List Mem} {m : Mem} (h : ms[k]? = some m) (hd : delOne s k m = m) : mixL s ms (k + 1) = mixL s ms k := by
  rw [← mixL_set h, hd]
  have hg := mixL_get (s := s) h
  have hl := (List.getElem?_eq_some_iff.1 hg).1
  apply List.ext_getElem?
  intro i
  rcases (show i = k ∨ i ≠ k by omega) with rfl | hi
  · rw [List.getElem?_set_self hl, hg]
  · rw [List.getElem?_set_ne (by omega)]

/-- Another member in a row of members. -/
theorem GRow.put {Q : Nat → Prop} {B d gb n cap k : Nat} {W W' : World} {ms : List Mem} {m : Mem} {cs : List Value} {y0 y1 y2 : Value}
    (hk : k < ms.length) (hn : n = ms.length) (hown : W'.ownsRow B 49 4 (.slice (some ⟨gb, 0, none⟩) n cap) n cs)
    (hcs : ∀ j x, j ≠ k → ms[j]? = some x → ∃ x0 x1 x2, cs[j * 4]? = some (.bool x.1) ∧ cs[j * 4 + 1]? = some x0 ∧ cs[j * 4 + 2]? = some x1 ∧ cs[j * 4 + 3]? = some x2 ∧ TAt (fun b => Q b ∧ b ≠ gb) d W x0 x1 x2 x.2)
    (h0 : cs[k * 4]? = some (.bool m.1)) (h1 : cs[k * 4 + 1]? = some y0) (h2 : cs[k * 4 + 2]? = some y1) (h3 : cs[k * 4 + 3]? = some y2)
    (hT : TAt (fun b => Q b ∧ b ≠ gb) d W y0 y1 y2 m.2) (hfar : ∀ q, q ≠ gb → W'.heap[q]? = W.heap[q]?) : GRow Q B d W' (.slice (some ⟨gb, 0, none⟩) n cap) (ms.set k m) := by
  have up : ∀ {z0 z1 z2 : Value} {S : Tree}, TAt (fun b => Q b ∧ b ≠ gb) d W z0 z1 z2 S → TAt (fun b => Q b ∧ (Value.slice (some ⟨gb, 0, none⟩) n cap).ownBlock ≠ some b) d W' z0 z1 z2 S := fun h =>
    TAt.both (fun q _ hq => hfar q hq.2) (fun q _ hq => ⟨hq.1, fun e => hq.2 (by simp [Value.ownBlock] at e; omega)⟩) _ _ _ _ _ h
  refine ⟨cs, by rw [List.length_set, ← hn]; exact hown, fun j x hx => ?_⟩
  rcases Nat.lt_trichotomy j k with hj | hj | hj
  · rw [List.getElem?_set_ne (by omega)] at hx
    obtain ⟨x0, x1, x2, e0, e1, e2, e3, e4⟩ := hcs j x (by omega) hx
    exact ⟨x0, x1, x2, e0, e1, e2, e3, up e4⟩
  · subst hj
    rw [List.getElem?_set_self hk] at hx
    obtain rfl := Option.some.inj hx
    exact ⟨y0, y1, y2, h0, h1, h2, h3, up hT⟩
  · rw [List.getElem?_set_ne (by omega)] at hx
    obtain ⟨x0, x1, x2, e0, e1, e2, e3, e4⟩ := hcs j x (by omega) hx
    exact ⟨x0, x1, x2, e0, e1, e2, e3, up e4⟩

theorem GRow.open' {Q : Nat → Prop} {B d k : Nat} {W : World} {v : Value} {ms : List Mem} (h : GRow Q B d W v ms) (hk : k < ms.length) : ∃ gb cap cs, v = .slice (some ⟨gb, 0, none⟩) ms.length cap ∧ B ≤ gb ∧ W.ownsRow B 49 4 (.slice (some ⟨gb, 0, none⟩) ms.length cap) ms.length cs ∧
    ∀ j x, ms[j]? = some x → ∃ x0 x1 x2, cs[j * 4]? = some (.bool x.1) ∧ cs[j * 4 + 1]? = some x0 ∧ cs[j * 4 + 2]? = some x1 ∧ cs[j * 4 + 3]? = some x2 ∧ TAt (fun b => Q b ∧ b ≠ gb) d W x0 x1 x2 x.2 := by
  obtain ⟨cs, h1, h2⟩ := h
  have h1' := h1
  rcases h1.2 with ⟨hv, h0⟩ | ⟨g, cap, cur, hv, hb, _⟩
  · omega
  · subst hv
    refine ⟨g, cap, cs, rfl, hb, h1', fun j x hx => ?_⟩
    obtain ⟨x0, x1, x2, e0, e1, e2, e3, e4⟩ := h2 j x hx
    exact ⟨x0, x1, x2, e0, e1, e2, e3, e4.imp (fun q _ hq => ⟨hq.1, fun e => hq.2 (by rw [e]; rfl)⟩)⟩

/-- The world of Delete: the argument's box g, the result g + 1, the copy in box r. -/
structure DelW (w : World) (g r : Nat) (v0 v : Value) (ms L : List Mem) (W : World) : Prop where
  box : W.heap[g]? = some (.cells #[v0] 40 (0, 0))
  res : W.heap[g + 1]? = some (.cells #[.slice none 0 0] 40 (0, 0))
  out : W.heap[r]? = some (.cells #[v] 40 (0, 0))
  row : GRow (fun q => g + 2 ≤ q) (g + 2) 2 W v L
  old : MemsAt (fun q => q < g) 2 W v0 ms
  below : Below w.heap.size w W

theorem DelW.bel {w W W' : World} {g r : Nat} {v0 v : Value} {ms L : List Mem} (h : DelW w g r v0 v ms L W) (hb : Below W.heap.size W W') : DelW w g r v0 v ms L W' :=
  ⟨(hb.block _ (Array.getElem?_eq_some_iff.1 h.box).1).trans h.box, (hb.block _ (Array.getElem?_eq_some_iff.1 h.res).1).trans h.res, (hb.block _ (Array.getElem?_eq_some_iff.1 h.out).1).trans h.out, h.row.keep (fun q _ hq => hb.block q hq), h.old.below hb, bstep h.below hb⟩

/-- What changes the row's block alone. -/
theorem DelW.put {w W W' : World} {g r gb : Nat} {v0 v : Value} {ms L L' : List Mem} (h : DelW w g r v0 v ms L W) (hg : w.heap.size = g) (hgb : g + 2 ≤ gb) (hr : r ≠ gb) (hfar : ∀ q, q ≠ gb → W'.heap[q]? = W.heap[q]?) (hrow : GRow (fun q => g + 2 ≤ q) (g + 2) 2 W' v L') (hbel : Below w.heap.size w W') : DelW w g r v0 v ms L' W' :=
  ⟨(hfar g (by omega)).trans h.box, (hfar (g + 1) (by omega)).trans h.res, (hfar r hr).trans h.out, hrow, h.old.both (fun k _ hk => hfar k (by omega)) (fun k _ hk => hk), hbel⟩

/-- A member is stored whole. -/
theorem DelW.store4 {w W : World} {g r gb n cap k : Nat} {v0 : Value} {ms L : List Mem} {m : Mem} {y0 y1 y2 : Value} (h : DelW w g r v0 (.slice (some ⟨gb, 0, none⟩) n cap) ms L W) (hg : w.heap.size = g) (hr : r ≠ gb) (hk : k < L.length)
    (hT : TAt (fun q => g + 2 ≤ q ∧ q ≠ gb) 2 W y0 y1 y2 m.2) : DelW w g r v0 (.slice (some ⟨gb, 0, none⟩) n cap) ms (L.set k m) ((((W.setCell ⟨gb, k * 4, none⟩ (.bool m.1)).setCell ⟨gb, k * 4 + 1, none⟩ y0).setCell ⟨gb, k * 4 + 2, none⟩ y1).setCell ⟨gb, k * 4 + 3, none⟩ y2) := by
  obtain ⟨gb', cap', cs, hv, hgb, hown, hcs⟩ := h.row.open' hk
  injection hv with e1 e2 e3
  injection e1 with e1
  injection e1 with e1 _ _
  subst e1 e2 e3
  have hl := hown.1
  have far : ∀ q, q ≠ gb → ((((W.setCell ⟨gb, k * 4, none⟩ (.bool m.1)).setCell ⟨gb, k * 4 + 1, none⟩ y0).setCell ⟨gb, k * 4 + 2, none⟩ y1).setCell ⟨gb, k * 4 + 3, none⟩ y2).heap[q]? = W.heap[q]? := fun q hq =>
    (Below.heap_setCell _ _ _ _ (by simpa using hq)).trans ((Below.heap_setCell _ _ _ _ (by simpa using hq)).trans ((Below.heap_setCell _ _ _ _ (by simpa using hq)).trans (Below.heap_setCell _ _ _ _ (by simpa using hq))))
  refine h.put hg hgb hr far (GRow.put hk rfl ((((hown.stored (k * 4) (.bool m.1)).1.stored (k * 4 + 1) y0).1.stored (k * 4 + 2) y1).1.stored (k * 4 + 3) y2).1 (fun j x hj hx => ?_) ?_ ?_ ?_ ?_ hT far) ?_
  · obtain ⟨x0, x1, x2, a0, a1, a2, a3, a4⟩ := hcs j x hx
    refine ⟨x0, x1, x2, ?_, ?_, ?_, ?_, a4⟩
    · rw [List.getElem?_set_ne (by omega), List.getElem?_set_ne (by omega), List.getElem?_set_ne (by omega), List.getElem?_set_ne (by omega)]; exact a0
    · rw [List.getElem?_set_ne (by omega), List.getElem?_set_ne (by omega), List.getElem?_set_ne (by omega), List.getElem?_set_ne (by omega)]; exact a1
    · rw [List.getElem?_set_ne (by omega), List.getElem?_set_ne (by omega), List.getElem?_set_ne (by omega), List.getElem?_set_ne (by omega)]; exact a2
    · rw [List.getElem?_set_ne (by omega), List.getElem?_set_ne (by omega), List.getElem?_set_ne (by omega), List.getElem?_set_ne (by omega)]; exact a3
  · rw [List.getElem?_set_ne (by omega), List.getElem?_set_ne (by omega), List.getElem?_set_ne (by omega), List.getElem?_set_self (by omega)]
  · rw [List.getElem?_set_ne (by omega), List.getElem?_set_ne (by omega), List.getElem?_set_self (by first | omega | (simp; omega))]
  · rw [List.getElem?_set_ne (by omega), List.getElem?_set_self (by simp; omega)]
  · rw [List.getElem?_set_self (by simp; omega)]
  · exact bset (bset (bset (bset h.below (p := ⟨gb, k * 4, none⟩) (by show w.heap.size ≤ gb; omega) _) (p := ⟨gb, k * 4 + 1, none⟩) (by show w.heap.size ≤ gb; omega) _) (p := ⟨gb, k * 4 + 2, none⟩) (by show w.heap.size ≤ gb; omega) _) (p := ⟨gb, k * 4 + 3, none⟩) (by show w.heap.size ≤ gb; omega) _

/-- A declared member's trust is stored. -/
theorem DelW.store3 {w W : World} {g r gb n cap k : Nat} {v0 : Value} {ms L : List Mem} {m : Mem} {y0 y1 y2 : Value} (h : DelW w g r v0 (.slice (some ⟨gb, 0, none⟩) n cap) ms L W) (hg : w.heap.size = g) (hr : r ≠ gb) (hk : k < L.length) (hb : ∀ x, L[k]? = some x → x.1 = m.1)
    (hT : TAt (fun q => g + 2 ≤ q ∧ q ≠ gb) 2 W y0 y1 y2 m.2) : DelW w g r v0 (.slice (some ⟨gb, 0, none⟩) n cap) ms (L.set k m) (((W.setCell ⟨gb, k * 4 + 1, none⟩ y0).setCell ⟨gb, k * 4 + 2, none⟩ y1).setCell ⟨gb, k * 4 + 3, none⟩ y2) := by
  obtain ⟨gb', cap', cs, hv, hgb, hown, hcs⟩ := h.row.open' hk
  injection hv with e1 e2 e3
  injection e1 with e1
  injection e1 with e1 _ _
  subst e1 e2 e3
  have hl := hown.1
  have far : ∀ q, q ≠ gb → (((W.setCell ⟨gb, k * 4 + 1, none⟩ y0).setCell ⟨gb, k * 4 + 2, none⟩ y1).setCell ⟨gb, k * 4 + 3, none⟩ y2).heap[q]? = W.heap[q]? := fun q hq =>
    (Below.heap_setCell _ _ _ _ (by simpa using hq)).trans ((Below.heap_setCell _ _ _ _ (by simpa using hq)).trans (Below.heap_setCell _ _ _ _ (by simpa using hq)))
  refine h.put hg hgb hr far (GRow.put hk rfl (((hown.stored (k * 4 + 1) y0).1.stored (k * 4 + 2) y1).1.stored (k * 4 + 3) y2).1 (fun j x hj hx => ?_) ?_ ?_ ?_ ?_ hT far) ?_
  · obtain ⟨x0, x1, x2, a0, a1, a2, a3, a4⟩ := hcs j x hx
    refine ⟨x0, x1, x2, ?_, ?_, ?_, ?_, a4⟩
    · rw [List.getElem?_set_ne (by omega), List.getElem?_set_ne (by omega), List.getElem?_set_ne (by omega)]; exact a0
    · rw [List.getElem?_set_ne (by omega), List.getElem?_set_ne (by omega), List.getElem?_set_ne (by omega)]; exact a1
    · rw [List.getElem?_set_ne (by omega), List.getElem?_set_ne (by omega), List.getElem?_set_ne (by omega)]; exact a2
    · rw [List.getElem?_set_ne (by omega), List.getElem?_set_ne (by omega), List.getElem?_set_ne (by omega)]; exact a3
  · rw [List.getElem?_set_ne (by omega), List.getElem?_set_ne (by omega), List.getElem?_set_ne (by omega)]
    obtain ⟨x0, x1, x2, a0, _⟩ := hcs k _ (List.getElem?_eq_getElem hk)
    rw [a0, hb _ (List.getElem?_eq_getElem hk)]
  · rw [List.getElem?_set_ne (by omega), List.getElem?_set_ne (by omega), List.getElem?_set_self (by first | omega | (simp; omega))]
  · rw [List.getElem?_set_ne (by omega), List.getElem?_set_self (by simp; omega)]
  · rw [List.getElem?_set_self (by simp; omega)]
  · exact bset (bset (bset h.below (p := ⟨gb, k * 4 + 1, none⟩) (by show w.heap.size ≤ gb; omega) _) (p := ⟨gb, k * 4 + 2, none⟩) (by show w.heap.size ≤ gb; omega) _) (p := ⟨gb, k * 4 + 3, none⟩) (by show w.heap.size ≤ gb; omega) _

/-- The cells of the row at a member. -/
theorem DelW.cells {w W : World} {g r gb n cap k : Nat} {v0 : Value} {ms L : List Mem} (h : DelW w g r v0 (.slice (some ⟨gb, 0, none⟩) n cap) ms L W) (hk : k < L.length) :
    (∃ u, W.cell? ⟨gb, k * 4, none⟩ = some u) ∧ (∃ u, W.cell? ⟨gb, k * 4 + 1, none⟩ = some u) ∧ (∃ u, W.cell? ⟨gb, k * 4 + 2, none⟩ = some u) ∧ (∃ u, W.cell? ⟨gb, k * 4 + 3, none⟩ = some u) ∧ (∀ j, W.frozen? ⟨gb, j, none⟩ = false) ∧ gb < W.heap.size := by
  obtain ⟨gb', cap', cs, hv, hgb, hown, hcs⟩ := h.row.open' hk
  injection hv with e1 e2 e3
  injection e1 with e1
  injection e1 with e1 _ _
  subst e1 e2 e3
  have hl := hown.1
  refine ⟨⟨_, (hown.cellAt (k * 4) (by omega)).trans (List.getElem?_eq_getElem (by omega))⟩, ⟨_, (hown.cellAt (k * 4 + 1) (by omega)).trans (List.getElem?_eq_getElem (by omega))⟩, ⟨_, (hown.cellAt (k * 4 + 2) (by omega)).trans (List.getElem?_eq_getElem (by omega))⟩, ⟨_, (hown.cellAt (k * 4 + 3) (by omega)).trans (List.getElem?_eq_getElem (by omega))⟩, hown.frozenAt, (hown.lt gb rfl).2⟩

set_option maxRecDepth 100000 in
set_option maxHeartbeats 8000000 in
theorem pdelete_run (P : Nat → Prop) (ms : List Mem) (v : Value) (s : Nat) (w : World) (hl : ms.length ≤ 10) (hs : s < 1024) (h : MemsAt P 2 w v ms) (hok : MemsOk ms.length ms) :
    Calls Tryd.prog 17 #[.agg #[v], .int .i64 (s : Int)] w fun e w' => ∃ v', e = .returned (.agg #[v']) ∧ MemsAt (fun b => w.heap.size ≤ b) 2 w' v' (delM s ms) ∧ Below w.heap.size w w' := by
  obtain ⟨A, c, rfl⟩ := h.slice
  have hsv := Lib.hid (show setB (s : Int) = true from setB_iff.2 ⟨by omega, by omega⟩)
  have hb2 : Below w.heap.size w ((w.alloc (.cells #[.slice A ms.length c] 40)).alloc (.cells #[.slice none 0 0] 40)) := balloc (balloc (bref w) _) _
  have k0 : ((w.alloc (.cells #[.slice A ms.length c] 40)).alloc (.cells #[.slice none 0 0] 40)).heap[w.heap.size]? = some (.cells #[.slice A ms.length c] 40 (0, 0)) := alloc_on (alloc_at rfl)
  have k1 : ((w.alloc (.cells #[.slice A ms.length c] 40)).alloc (.cells #[.slice none 0 0] 40)).heap[w.heap.size + 1]? = some (.cells #[.slice none 0 0] 40 (0, 0)) := alloc_at (alloc_sz _ _)
  have hsz : ((w.alloc (.cells #[.slice A ms.length c] 40)).alloc (.cells #[.slice none 0 0] 40)).heap.size = w.heap.size + 2 := by rw [alloc_sz, alloc_sz]
  have H := Lib.hid ((h.both (Q := fun b => b < w.heap.size) (fun _ _ _ => rfl) (fun k hk _ => hk)).below hb2)
  have HB := Lib.hid hb2
  have K0 := Lib.hid k0
  have K1 := Lib.hid k1
  have HOK := Lib.hid hok
  clear h hb2 k0 k1 hok
  go_enter Tryd.func17, Tryd.ntmps17
  go_upto_region 1 with fail
  generalize ((w.alloc (.cells #[.slice A ms.length c] 40)).alloc (.cells #[.slice none 0 0] 40)) = W1 at *
  generalize hg : w.heap.size = g at *
  have HG := Lib.hid hg
  clear hg
  have c0 : W1.cell? ⟨g, 0, none⟩ = some (.slice A ms.length c) := cell_of_row _ _ 0 _ _ (0, 0) K0.out
  go_wp2_with fail
  refine (pconfig_run 2 _ _ ms _ hl H.out).mono ?_
  rintro e W2 ⟨v', rfl, hR, hb⟩
  have hms := hR.mems (P := fun _ => True) (fun _ _ => trivial)
  obtain ⟨A2, c2, rfl⟩ := hms.slice
  have hbA := balloc hb (.cells #[.slice A2 ms.length c2] 40)
  have HD := Lib.hid (show DelW w g W2.heap.size (.slice A ms.length c) (.slice A2 ms.length c2) ms (mixL s ms 0) (W2.alloc (.cells #[.slice A2 ms.length c2] 40)) from by
    refine ⟨(hbA.block g (by omega)).trans K0.out, (hbA.block (g + 1) (by omega)).trans K1.out, alloc_at rfl, ?_, H.out.below hbA, ?_⟩
    · have h1 := hR.keep (W' := W2.alloc (.cells #[.slice A2 ms.length c2] 40)) (fun q _ hq => Below.heap_alloc _ _ _ hq)
      obtain ⟨cs, h3, h4⟩ := h1
      rw [show mixL s ms 0 = ms from rfl]
      exact ⟨cs, own_down h3 (by omega), fun k m hm => by
        obtain ⟨x0, x1, x2, e0, e1, e2, e3, e4⟩ := h4 k m hm
        exact ⟨x0, x1, x2, e0, e1, e2, e3, e4.imp (fun q _ hP => ⟨by have := hP.1; omega, hP.2⟩)⟩⟩
    · have h1 := HB.out
      rw [← HG.out] at h1
      exact h1.trans (hbA.mono (by have := HG.out; omega)))
  have hrl : W2.heap.size < (W2.alloc (.cells #[.slice A2 ms.length c2] 40)).heap.size := by rw [alloc_sz]; omega
  have hbs := hb.size
  have HNE := Lib.hid (show ∀ gb, (Value.slice A2 ms.length c2).ownBlock = some gb → gb < W2.heap.size from fun gb hgb => (hR.own gb hgb).2)
  clear hms hR hb hbA c0
  go_upto_region 2 with fail
  generalize W2.alloc (.cells #[.slice A2 ms.length c2] 40) = W3 at *
  generalize W2.heap.size = r at *
  go_wp2_with fail
  refine (setValid_run _ _).mono ?_
  rintro e w2 ⟨rfl, rfl⟩
  rw [hsv.out]
  have c0 : W3.cell? ⟨g, 0, none⟩ = some (.slice A ms.length c) := cell_of_row _ _ 0 _ _ (0, 0) HD.out.box
  go_wp2_with fail
  clear c0
  go_loopw [17] (fun t W => ∃ k : Nat, k ≤ ms.length ∧ t = .int .i64 k ∧ Hid (DelW w g r (.slice A ms.length c) (.slice A2 ms.length c2) ms (mixL s ms k) W)) (fun t _ => ms.length - (intOf t).toNat)
  case atStart => exact ⟨0, Nat.zero_le _, rfl, HD⟩
  case round =>
    clear HD hrl
    obtain ⟨k, hk, rfl, hD⟩ := hrel
    by_cases hlt : k < ms.length
    · obtain ⟨m, hm⟩ : ∃ m, ms[k]? = some m := ⟨_, List.getElem?_eq_getElem hlt⟩
      obtain ⟨A', c', hv, hc⟩ := hD.out.old
      injection hv with hv1 hv2 hv3
      subst hv1
      obtain ⟨b, off, x0, x1, x2, rfl, hPb, e0, e1, e2, e3, hTk⟩ := hc k m hm
      obtain ⟨t', A1, n1, c1, B1, m1, c1', rfl, rfl, rfl⟩ := hTk.form
      obtain ⟨bm, T⟩ := m
      have hM := HOK.out _ (List.mem_of_getElem? hm)
      have HM1 := Lib.hid hM.1
      have HM2 := Lib.hid hM.2
      have HX := Lib.hid hm
      have hkk : k < 10 := by omega
      clear hc hM hm hv2 hv3
      have hbl := cell_lt e0
      have hbx : (wr.alloc (.cells #[.bool bm, .int .i64 t', .slice A1 n1 c1, .slice B1 m1 c1'] 49)).heap[wr.heap.size]? = some (.cells #[.bool bm, .int .i64 t', .slice A1 n1 c1, .slice B1 m1 c1'] 49 (0, 0)) := alloc_at rfl
      have hbA := balloc (bref wr) (.cells #[.bool bm, .int .i64 t', .slice A1 n1 c1, .slice B1 m1 c1'] 49)
      have hD4 := Lib.hid (hD.out.bel hbA)
      have HT4 := Lib.hid ((hTk.below hbA))
      have hrw : r < wr.heap.size := (Array.getElem?_eq_some_iff.1 hD.out.out).1
      have hgw : g + 1 < wr.heap.size := (Array.getElem?_eq_some_iff.1 hD.out.res).1
      clear hbA hTk hD
      go_upto_region 7 with fail
      generalize wr.alloc (.cells #[.bool bm, .int .i64 t', .slice A1 n1 c1, .slice B1 m1 c1'] 49) = W4 at *
      generalize wr.heap.size = r7 at *
      clear e0 e1 e2 e3 hbl
      obtain ⟨gb, cap, cs0, hv, hgb, hown, hcs⟩ := hD4.out.row.open' (by rw [mixL_len]; exact hlt : k < (mixL s ms k).length)
      injection hv with hv1 hv2 hv3
      subst hv1
      have hgr : gb < r := HNE.out gb rfl
      clear hown hcs hv2 hv3
      have hkl : k < (mixL s ms k).length := by rw [mixL_len]; exact hlt
      have q0 : W4.cell? ⟨r, 0, none⟩ = some (.slice (some ⟨gb, 0, none⟩) ms.length c2) := cell_of_row _ _ 0 _ _ (0, 0) hD4.out.out
      have hbit := hasB_bit hs hkk
      cases hb : s.testBit k
      · rw [hb] at hbit
        have f0 : W4.cell? ⟨r7, 0, none⟩ = some (.bool bm) := cell_of_row _ _ 0 _ _ (0, 0) hbx
        cases bm
        · have hsame := mixL_same (s := s) HX.out (by unfold delOne; rw [hbit]; rfl)
          go_wp2_with fail
          refine (has_run _ _ _).mono ?_
          rintro e w2 ⟨rfl, rfl⟩
          rw [hbit]
          go_wp2_with fail
          go_roundw
          case rel => exact ⟨k + 1, by omega, by go_num, by rw [hsame]; exact hD4⟩
          case measure => simp [intOf]; omega
        · have f1 : W4.cell? ⟨r7, 1, none⟩ = some (.int .i64 t') := cell_of_row _ _ 1 _ _ (0, 0) hbx
          have f2 : W4.cell? ⟨r7, 2, none⟩ = some (.slice A1 n1 c1) := cell_of_row _ _ 2 _ _ (0, 0) hbx
          have f3 : W4.cell? ⟨r7, 3, none⟩ = some (.slice B1 m1 c1') := cell_of_row _ _ 3 _ _ (0, 0) hbx
          have HWT := Lib.hid (HM1.out rfl)
          go_wp2_with fail
          refine (has_run _ _ _).mono ?_
          rintro e w2 ⟨rfl, rfl⟩
          rw [hbit]
          go_upto_region 10 with fail
          have hDd := Lib.hid (hD4.out.bel (W' := W4.drew) ⟨rfl, rfl, rfl, Nat.le_refl _, fun _ _ => rfl⟩)
          have HTd := Lib.hid (HT4.out.below (w' := W4.drew) ⟨rfl, rfl, rfl, Nat.le_refl _, fun _ _ => rfl⟩)
          go_region_with ((go_at_call 12; refine (delT_run _ ms.length s k 1 T _ _ _ _ hs (by exact HTd.out) HWT.out).mono ?_; rintro e W5 ⟨y0, y1, y2, rfl, hT5, hb5⟩; obtain ⟨t2, E1, n2, d1, E2, n3, d2, rfl, rfl, rfl⟩ := hT5.form; have hD5 := Lib.hid (hDd.out.bel (W' := W5) hb5); have HT5 := Lib.hid hT5; have q5 := cell_of_row W5 r 0 _ _ (0, 0) hD5.out.out; obtain ⟨⟨u0, p0⟩, ⟨u1, p1⟩, ⟨u2, p2⟩, ⟨u3, p3⟩, hfz, hgl⟩ := hD5.out.cells hkl; have z1 := hfz (k * 4 + 1); have z2 := hfz (k * 4 + 2); have z3 := hfz (k * 4 + 3)))
          all_goals
            have hset := hD5.out.store3 (k := k) (m := (true, delT s k 2 T)) HG.out (by omega) hkl (fun x hx => by rw [mixL_get HX.out] at hx; rw [← Option.some.inj hx]) (HT5.out.imp (fun q _ hq => by
              have h1 : W4.heap.size ≤ q := hq
              have h2 : r < W4.heap.size := (Array.getElem?_eq_some_iff.1 hD4.out.out).1
              have h3 : g + 1 < W4.heap.size := (Array.getElem?_eq_some_iff.1 hD4.out.res).1
              omega))
            rw [show (mixL s ms k).set k (true, delT s k 2 T) = mixL s ms (k + 1) by rw [← mixL_set HX.out]; unfold delOne; rw [hbit]; rfl] at hset
            have HSET := Lib.hid hset
            clear hset hfz
            go_wp2_with fail
            go_roundw
            case rel => exact ⟨k + 1, by omega, by go_num, by first | exact HSET | exact Lib.hid (HSET.out.bel ⟨rfl, rfl, rfl, Nat.le_refl _, fun _ _ => rfl⟩)⟩
            case measure => simp [intOf]; omega
      · rw [hb] at hbit
        obtain ⟨⟨u0, p0⟩, ⟨u1, p1⟩, ⟨u2, p2⟩, ⟨u3, p3⟩, hfz, hgl⟩ := hD4.out.cells hkl
        have z0 := hfz (k * 4)
        have z1 := hfz (k * 4 + 1)
        have z2 := hfz (k * 4 + 2)
        have z3 := hfz (k * 4 + 3)
        have hset := hD4.out.store4 (k := k) (m := (false, .mk 0 [] [])) (y0 := .int .i64 0) (y1 := .slice none 0 0) (y2 := .slice none 0 0) HG.out (by omega) hkl (TAt.empty _ 1 _ none none 0 0)
        rw [show (mixL s ms k).set k (false, .mk 0 [] []) = mixL s ms (k + 1) by rw [← mixL_set HX.out]; unfold delOne; rw [hbit]; rfl] at hset
        have HSET := Lib.hid hset
        clear hset hfz
        go_wp2_with fail
        refine (has_run _ _ _).mono ?_
        rintro e w2 ⟨rfl, rfl⟩
        rw [hbit]
        go_wp2_with fail
        go_roundw
        case rel => exact ⟨k + 1, by omega, by go_num, HSET⟩
        case measure => simp [intOf]; omega
    · obtain rfl : k = ms.length := by omega
      have hfull : mixL s ms ms.length = delM s ms := by
        unfold mixL
        rw [List.drop_length, List.append_nil, ← delM_len s ms, List.take_length]
      rw [hfull] at hD
      have z0 : wr.cell? ⟨g + 1, 0, none⟩ = some (.slice none 0 0) := cell_of_row _ _ 0 _ _ (0, 0) hD.out.res
      have zf : wr.frozen? ⟨g + 1, 0, none⟩ = false := by simp [World.frozen?, hD.out.res]
      have q0 : wr.cell? ⟨r, 0, none⟩ = some (.slice A2 ms.length c2) := cell_of_row _ _ 0 _ _ (0, 0) hD.out.out
      have hzl := cell_lt z0
      go_wp2_with fail
      refine bodyPost_ret (v := .agg #[.slice A2 ms.length c2]) ?_ rfl ⟨_, rfl, ?_, ?_⟩
      · simp [results, Tryd.results17, go_sem, z0]
      · have hk := hD.out.row.keep (W' := wr.setCell ⟨g + 1, 0, none⟩ (.slice A2 ms.length c2)) (fun q hq _ => Below.heap_setCell _ _ _ _ (by simp; omega))
        exact hk.mems (fun q hq => by have := HG.out; omega)
      · exact bset hD.out.below (p := ⟨g + 1, 0, none⟩) (by show w.heap.size ≤ g + 1; have := HG.out; omega) _

end Go.Proofs.YtcngpfffhjbiaaaDoor

namespace Go.Proofs.YtcngpfffhjbiaaaDoor
set_option linter.unusedVariables false
set_option linter.unusedSimpArgs false
open Go.RowKit

theorem belowN {w w' : World} (hg : Below w.heap.size w w') : Below w.heap.size w w' := hg

set_option maxRecDepth 100000 in
set_option maxHeartbeats 2000000 in
theorem rsameI_run (P Q : Nat → Prop) (v u : Value) (ns : List Int) (w : World) (hn : ns.length ≤ 1000000) (h : NodesAt P w v ns) (h2 : NodesAt Q w u ns) :
    Calls Tryd.prog 53 #[v, u] w fun e w' => e = .returned (.bool true) ∧ Below w.heap.size w w' := by
  obtain ⟨A, c, rfl, hA⟩ := h
  obtain ⟨B, c', rfl, hB⟩ := h2
  have HA := Lib.hid hA
  have HB := Lib.hid hB
  clear hA hB
  go_enter Tryd.func53, Tryd.ntmps53
  go_wp2_with fail
  go_loopw [13] (fun t W => ∃ k : Nat, k ≤ ns.length ∧ t = .int .i64 k ∧ Hid (Below w.heap.size w W)) (fun t _ => ns.length - (intOf t).toNat)
  case atStart => exact ⟨0, Nat.zero_le _, rfl, Lib.hid (bref _)⟩
  case round =>
    obtain ⟨k, hk, rfl, hBe⟩ := hrel
    by_cases hlt : k < ns.length
    · obtain ⟨b, off, rfl, _, e1⟩ := HA.out k hlt
      obtain ⟨b2, off2, rfl, _, e2⟩ := HB.out k hlt
      have d1 := (World.cell?_of_block (a := ⟨b, off + k, none⟩) (hBe.out.block b (cell_lt e1))).trans e1
      have d2 := (World.cell?_of_block (a := ⟨b2, off2 + k, none⟩) (hBe.out.block b2 (cell_lt e2))).trans e2
      clear e1 e2
      generalize ns.getD k 0 = x at *
      go_wp2_with fail
      go_quiet (fail)
      go_wp2_with fail
      go_roundw
      case rel => exact ⟨k + 1, hlt, by go_num, Lib.hid (bdrewN hBe.out nq)⟩
      case measure => simp [intOf]; omega
    · obtain rfl : k = ns.length := by omega
      go_wp2_with fail
      go_ret
      exact ⟨rfl, hBe.out⟩

/-- The contract of Same on two trusts that are equal. -/
def RSameC (d : Nat) : Prop := ∀ (P Q : Nat → Prop) (T : Tree) (v0 v1 v2 u0 u1 u2 : Value) (w : World), TAt P d w v0 v1 v2 T → TAt Q d w u0 u1 u2 T →
    Calls Tryd.prog 38 #[.agg #[v0, v1, v2], .agg #[u0, u1, u2]] w fun e w' => e = .returned (.bool true) ∧ Below w.heap.size w w'

set_option maxRecDepth 100000 in
set_option maxHeartbeats 4000000 in
theorem rsame_step (d : Nat) (ih : RSameC d) : RSameC (d + 1) := by
  intro P Q T v0 v1 v2 u0 u1 u2 w h h2
  obtain ⟨thr, ns, is⟩ := T
  obtain ⟨rfl, hn, hi, hN, hL⟩ := h.parts
  obtain ⟨rfl, _, _, hN2, hL2⟩ := h2.parts
  obtain ⟨A, c, rfl⟩ := hN.slice
  obtain ⟨B, c', rfl⟩ := hL.slice
  obtain ⟨A2, e, rfl⟩ := hN2.slice
  obtain ⟨B2, e', rfl⟩ := hL2.slice
  have hb2 : Below w.heap.size w ((w.alloc (.cells #[.int .i64 thr, .slice A ns.length c, .slice B is.length c'] 28)).alloc (.cells #[.int .i64 thr, .slice A2 ns.length e, .slice B2 is.length e'] 28)) := balloc (balloc (bref w) _) _
  have k0 : ((w.alloc (.cells #[.int .i64 thr, .slice A ns.length c, .slice B is.length c'] 28)).alloc (.cells #[.int .i64 thr, .slice A2 ns.length e, .slice B2 is.length e'] 28)).heap[w.heap.size]? = some (.cells #[.int .i64 thr, .slice A ns.length c, .slice B is.length c'] 28 (0, 0)) := alloc_on (alloc_at rfl)
  have k1 : ((w.alloc (.cells #[.int .i64 thr, .slice A ns.length c, .slice B is.length c'] 28)).alloc (.cells #[.int .i64 thr, .slice A2 ns.length e, .slice B2 is.length e'] 28)).heap[w.heap.size + 1]? = some (.cells #[.int .i64 thr, .slice A2 ns.length e, .slice B2 is.length e'] 28 (0, 0)) := alloc_at (alloc_sz _ _)
  have HN := Lib.hid (hN.below hb2)
  have HN2 := Lib.hid (hN2.below hb2)
  have HL := Lib.hid (hL.below hb2)
  have HL2 := Lib.hid (hL2.below hb2)
  have HB := Lib.hid hb2
  have K0 := Lib.hid k0
  have K1 := Lib.hid k1
  have HI := Lib.hid ih
  clear h h2 hb2 k0 k1 hN hN2 hL hL2 ih
  go_enter Tryd.func38, Tryd.ntmps38
  go_upto_region 1 with fail
  generalize ((w.alloc (.cells #[.int .i64 thr, .slice A ns.length c, .slice B is.length c'] 28)).alloc (.cells #[.int .i64 thr, .slice A2 ns.length e, .slice B2 is.length e'] 28)) = W1 at *
  generalize hg : w.heap.size = g at *
  have HG := Lib.hid hg
  clear hg
  have a0 : W1.cell? ⟨g, 0, none⟩ = some (.int .i64 thr) := cell_of_row _ _ 0 _ _ (0, 0) K0.out
  have a1 : W1.cell? ⟨g, 1, none⟩ = some (.slice A ns.length c) := cell_of_row _ _ 1 _ _ (0, 0) K0.out
  have b0 : W1.cell? ⟨g + 1, 0, none⟩ = some (.int .i64 thr) := cell_of_row _ _ 0 _ _ (0, 0) K1.out
  have b1 : W1.cell? ⟨g + 1, 1, none⟩ = some (.slice A2 ns.length e) := cell_of_row _ _ 1 _ _ (0, 0) K1.out
  go_wp2_with fail
  refine (rsameI_run _ _ _ _ ns _ hn HN.out HN2.out).mono ?_
  rintro e3 W2 ⟨rfl, hb⟩
  have K02 := Lib.hid ((hb.block _ (Array.getElem?_eq_some_iff.1 K0.out).1).trans K0.out)
  have K12 := Lib.hid ((hb.block _ (Array.getElem?_eq_some_iff.1 K1.out).1).trans K1.out)
  have HLW := Lib.hid (HL.out.below hb)
  have HLW2 := Lib.hid (HL2.out.below hb)
  have HB2 := Lib.hid (show Below w.heap.size w W2 from (by have h1 := HB.out; rw [← HG.out] at h1; exact bstep h1 hb))
  clear hb a0 a1 b0 b1 K0 K1 HL HL2 HN HN2 HB
  have a2 : W2.cell? ⟨g, 2, none⟩ = some (.slice B is.length c') := cell_of_row _ _ 2 _ _ (0, 0) K02.out
  have b2 : W2.cell? ⟨g + 1, 2, none⟩ = some (.slice B2 is.length e') := cell_of_row _ _ 2 _ _ (0, 0) K12.out
  go_wp2_with fail
  clear a2 b2
  go_loopw [31] (fun t W => ∃ k : Nat, k ≤ is.length ∧ t = .int .i64 k ∧ Hid (Below W2.heap.size W2 W)) (fun t _ => is.length - (intOf t).toNat)
  case atStart => exact ⟨0, Nat.zero_le _, rfl, Lib.hid (bref _)⟩
  case round =>
    obtain ⟨k, hk, rfl, hBe⟩ := hrel
    by_cases hlt : k < is.length
    · obtain ⟨T, hT⟩ : ∃ T, is[k]? = some T := ⟨_, List.getElem?_eq_getElem hlt⟩
      have h1 := HLW.out.below hBe.out
      have h2 := HLW2.out.below hBe.out
      obtain ⟨Bn, cn, hBn, hLc⟩ := h1
      obtain ⟨Bm, cm, hBm, hLd⟩ := h2
      injection hBn with q1 q2 q3
      injection hBm with r1 r2 r3
      subst q1 r1
      obtain ⟨b, off, x0, x1, x2, rfl, _, d0, d1, d2, hTk⟩ := hLc k T hT
      obtain ⟨b', off', y0, y1, y2, rfl, _, f0, f1, f2, hTj⟩ := hLd k T hT
      obtain ⟨t', A', n', ca, B', m', cb, rfl, rfl, rfl⟩ := hTk.form
      obtain ⟨t2, A3, n3, ca3, B3, m3, cb3, rfl, rfl, rfl⟩ := hTj.form
      have hwr := hBe.out.size
      have a2 : wr.cell? ⟨g, 2, none⟩ = some (.slice (some ⟨b, off, none⟩) is.length c') := cell_of_row _ _ 2 _ _ (0, 0) ((hBe.out.block _ (Array.getElem?_eq_some_iff.1 K02.out).1).trans K02.out)
      have b2 : wr.cell? ⟨g + 1, 2, none⟩ = some (.slice (some ⟨b', off', none⟩) is.length e') := cell_of_row _ _ 2 _ _ (0, 0) ((hBe.out.block _ (Array.getElem?_eq_some_iff.1 K12.out).1).trans K12.out)
      have HTk := Lib.hid (TAt.keep (w := wr) (w' := wr.drew) (fun _ _ _ => rfl) hTk)
      have HTj := Lib.hid (TAt.keep (w := wr) (w' := wr.drew) (fun _ _ _ => rfl) hTj)
      clear hTk hTj hLc hLd hT q2 q3 r2 r3
      go_wp2_with fail
      go_region_with ((go_at_call 38; refine (HI.out _ _ T _ _ _ _ _ _ _ (by exact HTk.out) (by exact HTj.out)).mono ?_; rintro e3 W5 ⟨rfl, hb5⟩))
      all_goals
        have HB5 := Lib.hid (show Below W2.heap.size W2 W5 from bstep (bdrew hBe.out) hb5)
        clear hb5
        go_wp2_with fail
        go_roundw
        case rel => exact ⟨k + 1, hlt, by go_num, HB5⟩
        case measure => simp [intOf]; omega
    · obtain rfl : k = is.length := by omega
      have HBF := Lib.hid (bstep HB2.out hBe.out)
      go_wp2_with fail
      go_ret
      exact ⟨rfl, HBF.out⟩

theorem rsame_run : ∀ d, RSameC d
  | 0 => fun P Q T v0 v1 v2 u0 u1 u2 w h _ => h.elim
  | d + 1 => rsame_step d (rsame_run d)

/-- What the region reads: the two boxes, the two rows at k. -/
structure SameW (W0 : World) (g d b o b' o' k n c c' : Nat) (x : Bool) (t u : Int) (v1 v2 y1 y2 : Value) (T : Tree) (W : World) : Prop where
  bel : Below W0.heap.size W0 W
  tat : TAt (fun _ => True) d W (.int .i64 t) v1 v2 T
  taty : TAt (fun _ => True) d W (.int .i64 u) y1 y2 T

def SameL (W0 : World) (g d b o b' o' k n c c' : Nat) (x : Bool) (t u : Int) (v1 v2 y1 y2 : Value) (T : Tree) (W : World) : Prop :=
  W.cell? ⟨g, 0, none⟩ = some (.slice (some ⟨b, o, none⟩) n c) ∧ W.cell? ⟨g + 1, 0, none⟩ = some (.slice (some ⟨b', o', none⟩) n c') ∧ W.cell? ⟨b, o + k * 4, none⟩ = some (.bool x) ∧ W.cell? ⟨b, o + k * 4 + 1, none⟩ = some (.int .i64 t) ∧ W.cell? ⟨b, o + k * 4 + 2, none⟩ = some v1 ∧ W.cell? ⟨b, o + k * 4 + 3, none⟩ = some v2 ∧ W.cell? ⟨b', o' + k * 4, none⟩ = some (.bool x) ∧ W.cell? ⟨b', o' + k * 4 + 1, none⟩ = some (.int .i64 u) ∧ W.cell? ⟨b', o' + k * 4 + 2, none⟩ = some y1 ∧ W.cell? ⟨b', o' + k * 4 + 3, none⟩ = some y2 ∧ SameW W0 g d b o b' o' k n c c' x t u v1 v2 y1 y2 T W

theorem SameL.keep {W0 W W' : World} {g d b o b' o' k n c c' : Nat} {x : Bool} {t u : Int} {v1 v2 y1 y2 : Value} {T : Tree} (h : SameL W0 g d b o b' o' k n c c' x t u v1 v2 y1 y2 T W) (hb : Below W.heap.size W W') : SameL W0 g d b o b' o' k n c c' x t u v1 v2 y1 y2 T W' := by
  obtain ⟨h1, h2, h3, h4, h5, h6, h7, h8, h9, h10, h11⟩ := h
  have c : ∀ {pb po : Nat} {v : Value}, W.cell? ⟨pb, po, none⟩ = some v → W'.cell? ⟨pb, po, none⟩ = some v := fun {pb po} {v} hv => (hb.cell (p := ⟨pb, po, none⟩) (cell_lt hv)).trans hv
  exact ⟨c h1, c h2, c h3, c h4, c h5, c h6, c h7, c h8, c h9, c h10, ⟨bstep h11.bel hb, h11.tat.below hb, h11.taty.below hb⟩⟩

theorem satL {W0 W : World} {g d b o b' o' k n c c' : Nat} {x : Bool} {t u : Int} {v1 v2 y1 y2 : Value} {T : Tree} (h : SameL W0 g d b o b' o' k n c c' x t u v1 v2 y1 y2 T W) : SameW W0 g d b o b' o' k n c c' x t u v1 v2 y1 y2 T W := h.2.2.2.2.2.2.2.2.2.2

set_option maxRecDepth 100000 in
set_option maxHeartbeats 4000000 in
theorem rcsame_run (d : Nat) (P Q : Nat → Prop) (ms : List Mem) (v u : Value) (w : World) (hl : ms.length ≤ 1000000) (h : MemsAt P d w v ms) (h2 : MemsAt Q d w u ms) :
    Calls Tryd.prog 18 #[.agg #[v], .agg #[u]] w fun e w' => e = .returned (.bool true) ∧ Below w.heap.size w w' := by
  obtain ⟨A, c, rfl⟩ := h.slice
  obtain ⟨B, c', rfl⟩ := h2.slice
  have hb2 : Below w.heap.size w ((w.alloc (.cells #[.slice A ms.length c] 40)).alloc (.cells #[.slice B ms.length c'] 40)) := balloc (balloc (bref w) _) _
  have k0 : ((w.alloc (.cells #[.slice A ms.length c] 40)).alloc (.cells #[.slice B ms.length c'] 40)).heap[w.heap.size]? = some (.cells #[.slice A ms.length c] 40 (0, 0)) := alloc_on (alloc_at rfl)
  have k1 : ((w.alloc (.cells #[.slice A ms.length c] 40)).alloc (.cells #[.slice B ms.length c'] 40)).heap[w.heap.size + 1]? = some (.cells #[.slice B ms.length c'] 40 (0, 0)) := alloc_at (alloc_sz _ _)
  have H := Lib.hid (h.below hb2)
  have H2 := Lib.hid (h2.below hb2)
  have HB := Lib.hid hb2
  have K0 := Lib.hid k0
  have K1 := Lib.hid k1
  clear h h2 hb2 k0 k1
  go_enter Tryd.func18, Tryd.ntmps18
  go_upto_region 1 with fail
  generalize ((w.alloc (.cells #[.slice A ms.length c] 40)).alloc (.cells #[.slice B ms.length c'] 40)) = W1 at *
  generalize hg : w.heap.size = g at *
  have HG := Lib.hid hg
  clear hg
  have a0 : W1.cell? ⟨g, 0, none⟩ = some (.slice A ms.length c) := cell_of_row _ _ 0 _ _ (0, 0) K0.out
  have b0 : W1.cell? ⟨g + 1, 0, none⟩ = some (.slice B ms.length c') := cell_of_row _ _ 0 _ _ (0, 0) K1.out
  go_wp2_with fail
  clear a0 b0
  go_loopw [16] (fun t W => ∃ k : Nat, k ≤ ms.length ∧ t = .int .i64 k ∧ Hid (Below W1.heap.size W1 W)) (fun t _ => ms.length - (intOf t).toNat)
  case atStart => exact ⟨0, Nat.zero_le _, rfl, Lib.hid (bref _)⟩
  case round =>
    obtain ⟨k, hk, rfl, hBe⟩ := hrel
    by_cases hlt : k < ms.length
    · obtain ⟨m, hm⟩ : ∃ m, ms[k]? = some m := ⟨_, List.getElem?_eq_getElem hlt⟩
      have h1 := H.out.below hBe.out
      have h2 := H2.out.below hBe.out
      obtain ⟨Bn, cn, hBn, hLc⟩ := h1
      obtain ⟨Bm, cm, hBm, hLd⟩ := h2
      injection hBn with q1 q2 q3
      injection hBm with r1 r2 r3
      subst q1 r1
      obtain ⟨b, off, x0, x1, x2, rfl, _, db, d0, d1, d2, hTk⟩ := hLc k m hm
      obtain ⟨b', off', y0, y1, y2, rfl, _, fb, f0, f1, f2, hTj⟩ := hLd k m hm
      obtain ⟨t', A', n', ca, B', m', cb, rfl, rfl, rfl⟩ := hTk.form
      obtain ⟨t2, A3, n3, ca3, B3, m3, cb3, rfl, rfl, rfl⟩ := hTj.form
      obtain ⟨bm, T⟩ := m
      have a2 : wr.cell? ⟨g, 0, none⟩ = some (.slice (some ⟨b, off, none⟩) ms.length c) := cell_of_row _ _ 0 _ _ (0, 0) ((hBe.out.block _ (Array.getElem?_eq_some_iff.1 K0.out).1).trans K0.out)
      have b2 : wr.cell? ⟨g + 1, 0, none⟩ = some (.slice (some ⟨b', off', none⟩) ms.length c') := cell_of_row _ _ 0 _ _ (0, 0) ((hBe.out.block _ (Array.getElem?_eq_some_iff.1 K1.out).1).trans K1.out)
      have hS6 := Lib.hid (show SameL W1 g d b off b' off' k ms.length c c' bm t' t2 (.slice A' n' ca) (.slice B' m' cb) (.slice A3 n3 ca3) (.slice B3 m3 cb3) T wr.drew from
        ⟨a2, b2, db, d0, d1, d2, fb, f0, f1, f2, ⟨bdrew hBe.out, TAt.both (w := wr) (w' := wr.drew) (fun _ _ _ => rfl) (fun _ _ _ => trivial) _ _ _ _ _ hTk, TAt.both (w := wr) (w' := wr.drew) (fun _ _ _ => rfl) (fun _ _ _ => trivial) _ _ _ _ _ hTj⟩⟩)
      have hbb : (bm == bm) = true := by simp
      clear hTk hTj hLc hLd hm q2 q3 r2 r3 a2 b2 db d0 d1 d2 fb f0 f1 f2
      go_wp2_with fail
      go_region_held3 (fun W => W.cell? ⟨g, 0, none⟩ = some (.slice (some ⟨b, off, none⟩) ms.length c) ∧ W.cell? ⟨g + 1, 0, none⟩ = some (.slice (some ⟨b', off', none⟩) ms.length c') ∧ W.cell? ⟨b, off + k * 4, none⟩ = some (.bool bm) ∧ W.cell? ⟨b, off + k * 4 + 1, none⟩ = some (.int .i64 t') ∧ W.cell? ⟨b, off + k * 4 + 2, none⟩ = some (.slice A' n' ca) ∧ W.cell? ⟨b, off + k * 4 + 3, none⟩ = some (.slice B' m' cb) ∧ W.cell? ⟨b', off' + k * 4, none⟩ = some (.bool bm) ∧ W.cell? ⟨b', off' + k * 4 + 1, none⟩ = some (.int .i64 t2) ∧ W.cell? ⟨b', off' + k * 4 + 2, none⟩ = some (.slice A3 n3 ca3) ∧ W.cell? ⟨b', off' + k * 4 + 3, none⟩ = some (.slice B3 m3 cb3) ∧ SameW W1 g d b off b' off' k ms.length c c' bm t' t2 (.slice A' n' ca) (.slice B' m' cb) (.slice A3 n3 ca3) (.slice B3 m3 cb3) T W) (first | exact hS6.out | exact hSK | exact SameL.keep (by assumption) hbK | go_keep)
        (first
          | (go_at_call 38; refine (rsame_run d _ _ T _ _ _ _ _ _ _ (by exact (satL (by assumption)).tat) (by exact (satL (by assumption)).taty)).mono ?_; rintro e3 WK ⟨rfl, hbK⟩; have hSK := SameL.keep (by assumption) hbK))
      all_goals
        have HBF := Lib.hid (satL (W0 := W1) (g := g) (d := d) (b := b) (o := off) (b' := b') (o' := off') (k := k) (n := ms.length) (c := c) (c' := c') (x := bm) (t := t') (u := t2) (v1 := .slice A' n' ca) (v2 := .slice B' m' cb) (y1 := .slice A3 n3 ca3) (y2 := .slice B3 m3 cb3) (T := T) (by assumption)).bel
        go_wp2_with fail
        go_roundw
        case rel => exact ⟨k + 1, hlt, by go_num, HBF⟩
        case measure => simp [intOf]; omega
    · obtain rfl : k = ms.length := by omega
      have HBF := Lib.hid (show Below w.heap.size w wr from (by have h1 := HB.out; rw [← HG.out] at h1; exact bstep h1 hBe.out))
      go_wp2_with fail
      go_ret
      exact ⟨rfl, HBF.out⟩

end Go.Proofs.YtcngpfffhjbiaaaDoor

namespace Go.Proofs.YtcngpfffhjbiaaaDoor
set_option linter.unusedVariables false
set_option linter.unusedSimpArgs false
open Go.RowKit

theorem hasB_or {a b : Nat} (ha : a < 1024) (hb : b < 1024) (x : Int) : hasB ((a ||| b : Nat) : Int) x = (hasB (a : Int) x || hasB (b : Int) x) := by
  have hab : a ||| b < 1024 := Nat.or_lt_two_pow (n := 10) ha hb
  unfold hasB
  rw [setB_iff.2 ⟨by omega, by omega⟩, setB_iff.2 ⟨by omega, by omega⟩, setB_iff.2 ⟨by omega, by omega⟩]
  cases nodeB x
  · rfl
  · simp

theorem hasB_zero (x : Int) : hasB ((0 : Nat) : Int) x = false := by unfold hasB; simp

theorem cnt_or {α : Type} (p q : α → Bool) : ∀ (l : List α), cnt (fun x => p x || q x) l = cnt p l + cnt q (l.filter (fun x => !p x))
  | [] => rfl
  | x :: l => by
    have ih := cnt_or p q l
    unfold cnt at *
    rw [List.filter_cons, List.filter_cons, List.filter_cons]
    cases hp : p x <;> cases hq : q x <;> simp [List.filter_cons, hq] <;> simp at ih <;> omega

theorem thr_nat (s d : Nat) (T : Tree) (h : 0 ≤ thrOf T ∨ 0 < d) : 0 ≤ thrOf (lessT s d T) := by
  cases d with
  | zero => rcases h with h | h; exact h; omega
  | succ d => obtain ⟨t, ns, is⟩ := T; exact Int.natCast_nonneg _

theorem less_le (s : Nat) : ∀ (d : Nat) (T : Tree), deadT T = true → deadT (lessT s d T) = true
  | 0, T, h => h
  | d + 1, .mk t ns is, h => by
    have h : t ≤ 0 := of_decide_eq_true h
    refine decide_eq_true ?_
    show (((t.toNat - cnt (hasB (s : Int)) ns - cnt deadT (is.map (lessT s d)) : Nat)) : Int) ≤ 0
    omega

theorem map_dead {a b d : Nat} (ih : ∀ T, lessT b d (lessT a d T) = lessT (a ||| b) d T) : ∀ (is : List Tree),
    (((is.map (lessT a d)).filter (fun T => !deadT T)).map (lessT b d)).filter (fun T => !deadT T) = (is.map (lessT (a ||| b) d)).filter (fun T => !deadT T) ∧
    cnt deadT (is.map (lessT a d)) + cnt deadT (((is.map (lessT a d)).filter (fun T => !deadT T)).map (lessT b d)) = cnt deadT (is.map (lessT (a ||| b) d))
  | [] => ⟨rfl, rfl⟩
  | T :: is => by
    obtain ⟨h1, h2⟩ := map_dead ih is
    have hT := ih T
    unfold cnt at *
    rw [List.map_cons, List.map_cons, List.filter_cons, List.filter_cons, List.filter_cons, List.filter_cons]
    cases hd : deadT (lessT a d T)
    · rw [← hT]
      cases hd2 : deadT (lessT b d (lessT a d T))
      · refine ⟨?_, ?_⟩
        · simp [List.filter_cons, hd2]; first | exact h1 | simpa using h1
        · simp [List.filter_cons, hd2]; first | exact h2 | simpa using h2 | (simp at h2; omega)
      · refine ⟨?_, ?_⟩
        · simp [List.filter_cons, hd2]; first | exact h1 | simpa using h1
        · simp [List.filter_cons, hd2]; omega
    · have hd2 : deadT (lessT (a ||| b) d T) = true := by rw [← hT]; exact less_le _ _ _ hd
      rw [hd2]
      refine ⟨?_, ?_⟩
      · first | exact h1 | simpa using h1 | (simp; exact h1)
      · simp; omega

theorem less_twice {a b : Nat} (ha : a < 1024) (hb : b < 1024) : ∀ (d : Nat) (T : Tree), lessT b d (lessT a d T) = lessT (a ||| b) d T
  | 0, T => rfl
  | d + 1, .mk t ns is => by
    obtain ⟨h1, h2⟩ := map_dead (less_twice ha hb d) is
    have h3 : (ns.filter (fun k => !hasB (a : Int) k)).filter (fun k => !hasB (b : Int) k) = ns.filter (fun k => !hasB ((a ||| b : Nat) : Int) k) := by
      rw [List.filter_filter]
      refine List.filter_congr (fun x _ => ?_)
      rw [hasB_or ha hb]
      cases hasB (a : Int) x <;> cases hasB (b : Int) x <;> rfl
    have h4 : cnt (hasB ((a ||| b : Nat) : Int)) ns = cnt (hasB (a : Int)) ns + cnt (hasB (b : Int)) (ns.filter (fun k => !hasB (a : Int) k)) := by
      rw [← cnt_or]
      unfold cnt
      rw [List.filter_congr (fun x _ => hasB_or ha hb x)]
    show Tree.mk ((((((t.toNat - cnt (hasB (a : Int)) ns - cnt deadT (is.map (lessT a d)) : Nat) : Int)).toNat - cnt (hasB (b : Int)) (ns.filter (fun k => !hasB (a : Int) k)) - cnt deadT (((is.map (lessT a d)).filter (fun T => !deadT T)).map (lessT b d)) : Nat) : Int)) ((ns.filter (fun k => !hasB (a : Int) k)).filter (fun k => !hasB (b : Int) k)) ((((is.map (lessT a d)).filter (fun T => !deadT T)).map (lessT b d)).filter (fun T => !deadT T)) = Tree.mk ((t.toNat - cnt (hasB ((a ||| b : Nat) : Int)) ns - cnt deadT (is.map (lessT (a ||| b) d)) : Nat) : Int) (ns.filter (fun k => !hasB ((a ||| b : Nat) : Int) k)) ((is.map (lessT (a ||| b) d)).filter (fun T => !deadT T))
    rw [h1, h3, h4, ← h2, Int.toNat_natCast]
    congr 2
    omega

theorem less_zero {n : Int} : ∀ (d : Nat) (T : Tree), WF n d T → lessT 0 d T = T
  | 0, T, _ => rfl
  | d + 1, .mk t ns is, w => by
    obtain ⟨h1, _, _, _, _, _, hi⟩ := w
    have e1 : is.map (lessT 0 d) = is := by
      conv => rhs; rw [← List.map_id is]
      exact List.map_congr_left (fun T hT => less_zero d T (hi T hT))
    have e2 : cnt (hasB ((0 : Nat) : Int)) ns = 0 := by
      unfold cnt
      rw [List.length_eq_zero_iff, List.filter_eq_nil_iff]
      intro x _
      rw [hasB_zero]; simp
    have ed : ∀ T ∈ is, deadT T = false := fun T hT => by
      have hw := hi T hT
      cases d with
      | zero => exact hw.elim
      | succ d =>
        obtain ⟨t', ns', is'⟩ := T
        exact decide_eq_false (by show ¬ t' ≤ 0; have := hw.1; omega)
    have e3 : cnt deadT is = 0 := by
      unfold cnt
      rw [List.length_eq_zero_iff, List.filter_eq_nil_iff]
      intro T hT
      rw [ed T hT]; simp
    show Tree.mk ((t.toNat - cnt (hasB ((0 : Nat) : Int)) ns - cnt deadT (is.map (lessT 0 d)) : Nat) : Int) (ns.filter (fun k => !hasB ((0 : Nat) : Int) k)) ((is.map (lessT 0 d)).filter (fun T => !deadT T)) = .mk t ns is
    rw [e1, e2, e3, List.filter_eq_self.2 (fun x _ => by rw [hasB_zero]; rfl), List.filter_eq_self.2 (fun T hT => by rw [ed T hT]; rfl)]
    congr 1
    omega

theorem dead_zero {n : Int} {d : Nat} {T : Tree} (w : WF n (d + 1) T) : deadT T = false := by
  obtain ⟨t, ns, is⟩ := T
  exact decide_eq_false (by show ¬ t ≤ 0; have := w.1; omega)

theorem delT_twice {a b k d : Nat} (ha : a < 1024) (hb : b < 1024) (hkb : hasB (b : Int) (k : Int) = false) (T : Tree) : delT b k (d + 1) (delT a k (d + 1) T) = delT (a ||| b) k (d + 1) T := by
  unfold delT
  cases hd : deadT (lessT a (d + 1) T)
  · simp only [Bool.false_eq_true, if_false]
    rw [less_twice ha hb]
  · simp only [if_true]
    have h1 : deadT (lessT (a ||| b) (d + 1) T) = true := by rw [← less_twice ha hb]; exact less_le _ _ _ hd
    rw [h1, if_pos rfl]
    have h2 : lessT b (d + 1) (.mk 1 [(k : Int)] []) = .mk 1 [(k : Int)] [] := by
      show Tree.mk (((1 : Int).toNat - cnt (hasB (b : Int)) [(k : Int)] - cnt deadT [] : Nat) : Int) ([(k : Int)].filter (fun k => !hasB (b : Int) k)) [] = _
      unfold cnt
      simp [List.filter_cons, hkb]
    rw [h2]
    rfl

theorem delOne_twice {a b k : Nat} (ha : a < 1024) (hb : b < 1024) (m : Mem) (hm : m.1 = false → m.2 = .mk 0 [] []) : delOne b k (delOne a k m) = delOne (a ||| b) k m := by
  unfold delOne
  rw [hasB_or ha hb]
  cases h1 : hasB (a : Int) (k : Int) <;> cases h2 : hasB (b : Int) (k : Int) <;> simp
  obtain ⟨bm, T⟩ := m
  cases bm
  · simp
  · simp [delT_twice ha hb h2]

theorem delM_twice {a b : Nat} {ms : List Mem} (ha : a < 1024) (hb : b < 1024) (hok : MemsOk ms.length ms) : delM b (delM a ms) = delM (a ||| b) ms := by
  unfold delM
  rw [List.mapIdx_mapIdx]
  apply List.ext_getElem?
  intro i
  rw [List.getElem?_mapIdx, List.getElem?_mapIdx]
  cases hm : ms[i]? with
  | none => rfl
  | some m =>
    show some (delOne b i (delOne a i m)) = some (delOne (a ||| b) i m)
    rw [delOne_twice ha hb m (hok m (List.mem_of_getElem? hm)).2]

theorem delM_zero {ms : List Mem} (hok : MemsOk ms.length ms) : delM 0 ms = ms := by
  apply List.ext_getElem?
  intro i
  unfold delM
  rw [List.getElem?_mapIdx]
  cases hm : ms[i]? with
  | none => rfl
  | some m =>
    show some (delOne 0 i m) = some m
    congr 1
    obtain ⟨bm, T⟩ := m
    have hw := (hok _ (List.mem_of_getElem? hm)).1
    unfold delOne
    rw [hasB_zero]
    cases bm
    · rfl
    · have w := hw rfl
      simp
      unfold delT
      rw [less_zero 2 T w, dead_zero w]
      rfl

end Go.Proofs.YtcngpfffhjbiaaaDoor

namespace Go.Proofs.YtcngpfffhjbiaaaDoor
set_option linter.unusedVariables false
set_option linter.unusedSimpArgs false
open Go.RowKit

theorem two_pow_le {n : Nat} (h : n ≤ 10) : 1 ≤ 2 ^ n ∧ 2 ^ n ≤ 1024 := by
  have all : ∀ n : Fin 11, 1 ≤ 2 ^ n.val ∧ 2 ^ n.val ≤ 1024 := by decide
  exact all ⟨n, by omega⟩
theorem shl_nat {n : Nat} (h : n ≤ 10) : wrap64 ((2 : Int) ^ n) = ((2 ^ n : Nat) : Int) := by
  have all : ∀ n : Fin 11, wrap64 ((2 : Int) ^ n.val) = ((2 ^ n.val : Nat) : Int) := by decide +kernel
  exact all ⟨n, by omega⟩

theorem pow_cast (k : Nat) : ((2 : Int) ^ k) = ((2 ^ k : Nat) : Int) := by simp
theorem pow_small {k : Nat} (h : k < 10) : 2 ^ k < 1024 := Nat.pow_lt_pow_right (by decide) h
theorem wrap_pow {k : Nat} (h : k ≤ 10) : IntKind.i64.wrap ((2 : Int) ^ k) = (2 : Int) ^ k := by
  have all : ∀ n : Fin 11, IntKind.i64.wrap ((2 : Int) ^ n.val) = (2 : Int) ^ n.val := by decide +kernel
  exact all ⟨k, by omega⟩
theorem not_pow {a k : Nat} (ha : a < 1024) (hk : k < 10) : bits .andNot .i64 (a : Int) ((2 : Int) ^ k) = ((minS a (2 ^ k) : Nat) : Int) := by
  rw [pow_cast, andNot_nat a _ ha (pow_small hk)]; rfl
theorem or_pow {a k : Nat} (ha : a < 1024) (hk : k < 10) : bits .or .i64 (a : Int) ((2 : Int) ^ k) = ((a ||| 2 ^ k : Nat) : Int) := by
  have := pow_small hk
  rw [pow_cast, i64_or_nat a _ (by omega) (by omega)]
theorem minS_pow (a k : Nat) : (minS a (2 ^ k)).testBit k = false := by
  rw [minS_bit, Nat.testBit_two_pow_self]; simp
theorem or_pow_bit (a k : Nat) : (a ||| 2 ^ k).testBit k = true := by
  rw [Nat.testBit_or, Nat.testBit_two_pow_self]; simp

set_option maxRecDepth 100000 in
set_option maxHeartbeats 4000000 in
theorem walkDeletionGrows (a0 : Option Addr) (len0 cap0 : Nat) (z0 : List Int) (w : World) (w0 : IsRow .i64 w a0 len0 cap0 z0) :
    Calls Tryd.prog 3 #[.slice a0 len0 cap0] w fun e w' => e = .returned (.bool true) ∧ Below w.heap.size w w' := by
  have HR := Lib.hid w0
  clear w0
  go_enter Tryd.func3, Tryd.ntmps3
  go_wp2_with fail
  refine (TNew_run _ _ _ _ _ HR.out).mono ?_
  rintro e v0 ⟨rfl, hs0, hb0⟩
  have HS0 := Lib.hid hs0
  have HB0 := Lib.hid hb0
  clear hs0 hb0
  go_wp2_with fail
  refine (TRange_run _ _ _ _ (by omega) (by omega) (by omega) HS0.out).mono ?_
  rintro e v1 ⟨r, hr0, hr1, rfl, hs1, hg1⟩
  obtain ⟨n, rfl⟩ := Int.eq_ofNat_of_zero_le (show 0 ≤ r by omega)
  have HS1 := Lib.hid hs1
  have HB1 := Lib.hid (bgrownD HB0.out hg1 (Nat.le_refl _))
  have hsl := hs1.lt
  clear hs1 hg1
  go_wp2_with fail
  refine (mkTrust_run _ n (by omega) (by omega) 3 (by omega) _ HS1.out).mono ?_
  rintro e v2 ⟨x0, x1, x2, T, rfl, hT, hF, hs2, hg2⟩
  obtain ⟨t', A', n', ca, B', m', cb, rfl, rfl, rfl⟩ := hT.form
  have hMA : MadeAt w v2.heap.size 4 t' (.slice A' n' ca) (.slice B' m' cb) T (v2.alloc (.cells #[.int .i64 t', .slice A' n' ca, .slice B' m' cb] 28)) :=
    ⟨hs2.alloc _, heap_alloc_new _ _, (hT.imp (fun k _ hk => by omega)).below (balloc (bref _) _), hs2.lt, balloc (bgrownD HB1.out hg2 (Nat.le_refl _)) _⟩
  have HM := Lib.hid hMA
  have HW := Lib.hid hF.1
  have hn10 : (n : Int) ≤ 10 := hr1
  have hnn : n ≤ 10 := by omega
  obtain ⟨hp0, hp1⟩ := two_pow_le hnn
  have hsh := shl_nat hnn
  clear hT hF hs2 hg2 hMA HS1 HB1 HS0 HB0
  go_upto_region 4 with fail
  generalize v2.alloc (.cells #[.int .i64 t', .slice A' n' ca, .slice B' m' cb] 28) = W1 at *
  generalize v2.heap.size = g at *
  go_wp2_with fail
  go_loopw [6] (fun t W => ∃ k : Nat, k ≤ 20 ∧ t = .int .i64 k ∧ Hid (MadeAt w g 4 t' (.slice A' n' ca) (.slice B' m' cb) T W)) (fun t _ => 20 - (intOf t).toNat)
  case atStart => exact ⟨0, by omega, rfl, HM⟩
  case round =>
    obtain ⟨i, hi, rfl, hM⟩ := hrel
    by_cases hlt : i < 20
    · have HPI := Lib.hid (show ((2 : Int) ^ n) = ((2 ^ n : Nat) : Int) by simp)
      go_wp2_with fail
      refine (TN_run _ _ _ (by rw [HPI.out]; omega) (by rw [HPI.out]; omega) hM.out.tape).mono ?_
      rintro e W2 ⟨r, hr0, hr1', rfl, hs2, hg2⟩
      obtain ⟨a, rfl⟩ := Int.eq_ofNat_of_zero_le hr0
      have hM2 := Lib.hid (hM.out.grown hs2 hg2)
      clear hs2 hg2
      go_wp2_with fail
      refine (TN_run _ _ _ (by omega) (by omega) hM2.out.tape).mono ?_
      rintro e W3 ⟨r, hr2, hr3, rfl, hs2, hg2⟩
      obtain ⟨k, rfl⟩ := Int.eq_ofNat_of_zero_le hr2
      have hM3 := Lib.hid (hM2.out.grown hs2 hg2)
      clear hs2 hg2 hM hM2
      have ha : a < 1024 := by rw [HPI.out] at hr1'; omega
      have hk : k < 10 := by omega
      have hshk := shl_nat (n := k) (by omega)
      obtain ⟨hq0, hq1⟩ := two_pow_le (n := k) (by omega)
      go_upto_region 9 with fail
      rw [not_pow ha hk]
      have hgn := minS_lt (s := 2 ^ k) ha
      have HGB := Lib.hid (minS_pow a k)
      generalize minS a (2 ^ k) = gn at *
      have hwn := wrap_pow hnn
      have hwk := wrap_pow (k := k) (by omega)
      go_region_with ((go_at_call 10; refine (TN_run _ _ _ (by rw [HPI.out]; omega) (by rw [HPI.out]; omega) (by exact hM3.out.drew.tape)).mono ?_; rintro e W4 ⟨r, hr4, hr5, rfl, hs4, hg4⟩; have hM4 := Lib.hid (hM3.out.drew.grown hs4 hg4)))
      obtain ⟨b, rfl⟩ := Int.eq_ofNat_of_zero_le hr4
      have hb : b < 1024 := by rw [HPI.out] at hr5; omega
      have horr := or_pow hb hk
      have HZB := Lib.hid (or_pow_bit b k)
      have hzl : b ||| 2 ^ k < 1024 := Nat.or_lt_two_pow (n := 10) hb (pow_small hk)
      obtain ⟨z, hz⟩ : ∃ z, b ||| 2 ^ k = z := ⟨_, rfl⟩
      rw [hz] at horr HZB hzl
      clear hz hs4 hg4 hM3
      have hzm := andNot_nat z gn hzl hgn
      have HDG := Lib.hid (fun h => del_grows (n := n) hn10 HW.out hgn hzl hk HZB.out HGB.out h)
      have hml := minS_lt (s := gn) hzl
      obtain ⟨c0, c1, c2⟩ := hM4.out.out.cs
      go_wp2_with fail
      refine (rsat_run _ 4 T _ _ _ z _ hzl hM4.out.tat).mono ?_
      rintro e W5 ⟨rfl, hb5⟩
      have hM5 := Lib.hid (hM4.out.bel hb5)
      clear hb5 c0 c1 c2
      obtain ⟨c0, c1, c2⟩ := hM5.out.out.cs
      rcases (show satB 4 T (z : Int) = false ∨ satB 4 T (z : Int) = true by cases satB 4 T (z : Int) <;> simp) with hsb | hsb
      · rw [hsb]
        go_wp2_with fail
        go_roundw
        case rel => exact ⟨i + 1, by omega, by go_num, hM5⟩
        case measure => simp [intOf]; omega
      · rw [hsb]
        have hd := HDG.out hsb
        go_wp2_with fail
        refine (delT_run _ n gn k 3 T _ _ _ _ hgn hM5.out.tat HW.out).mono ?_
        rintro e W6 ⟨y0, y1, y2, rfl, hT6, hb6⟩
        have hM6 := Lib.hid (hM5.out.bel hb6)
        have HT6 := Lib.hid hT6
        clear hT6 hb6 c0 c1 c2
        go_wp2_with fail
        refine (rsat_run _ 4 _ _ _ _ (minS z gn) _ hml HT6.out).mono ?_
        rintro e W7 ⟨rfl, hb7⟩
        have hM7 := Lib.hid (hM6.out.bel hb7)
        rw [hd]
        clear hb7
        go_wp2_with fail
        go_roundw
        case rel => exact ⟨i + 1, by omega, by go_num, hM7⟩
        case measure => simp [intOf]; omega
    · obtain rfl : i = 20 := by omega
      go_wp2_with fail
      refine (awake13 _).mono ?_
      rintro e W5 ⟨rfl, hb5⟩
      have HB5 := Lib.hid (bstep hM.out.below hb5)
      clear hb5
      go_wp2_with fail
      go_ret
      exact ⟨rfl, HB5.out⟩
end Go.Proofs.YtcngpfffhjbiaaaDoor
