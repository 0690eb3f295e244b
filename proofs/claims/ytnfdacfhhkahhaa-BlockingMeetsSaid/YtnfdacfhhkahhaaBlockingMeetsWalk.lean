/- The walk of BlockingMeets: a set blocks a member exactly if it meets every slice of it outside of the member; the least blocking sets are the least ones that do. -/
import Derived.Test.YtnfdacfhhkahhaaBLeast
import Derived.Test.YtnfdacfhhkahhaaRSl05b
import Derived.Test.YtnfdacfhhkahhaaRMeet
import Derived.Test.YtnfdacfhhkahhaaB5
import Derived.Deep.RegionHeld3
namespace Go.Proofs.Ytnfdacfhhkahhaa
set_option linter.unusedVariables false
set_option linter.unusedSimpArgs false
open Go.RowKit

theorem blk_complM {d : Nat} {T : Tree} {k : Nat} (hk : k < 1024) : blkB d T (k : Int) = !satB d T ((1023 - k : Nat) : Int) := by
  have h3 := sat_blk_compl (d := d) (T := T) (s := ((1023 - k : Nat) : Int)) (by omega) (by omega)
  rw [show (1023 : Int) - ((1023 - k : Nat) : Int) = (k : Int) by omega] at h3
  exact h3
theorem ss_any {n : Int} {d : Nat} {T : Tree} (hn : n ≤ 10) (hW : WF n d T) {L : List Nat} (hL : IsLeast (ssP d T) L) {k : Nat} (hk : k < 1024) : L.any (fun z => subB z k) = satB d T (k : Int) := by
  rw [Bool.eq_iff_iff, List.any_eq_true]
  constructor
  · rintro ⟨z, hz, hzk⟩
    obtain ⟨h1, h2, _⟩ := (hL.2.1 z).1 hz
    unfold ssP at h2
    rw [Bool.and_eq_true] at h2
    exact sat_up hn hW h1 hk hzk h2.2
  · intro h
    have h1 : ssP d T k = true := by unfold ssP; rw [h, decide_eq_true hk]; rfl
    obtain ⟨y, y1, y2, y3⟩ := least_below (p := ssP d T) _ _ (Nat.le_refl _) h1
    exact ⟨y, (hL.2.1 y).2 ⟨by unfold ssP at y1; rw [Bool.and_eq_true, decide_eq_true_iff] at y1; exact y1.1, y1, y3⟩, y2⟩
theorem ss_uses {n : Int} {d : Nat} {T : Tree} (hn : n ≤ 10) (hW : WF n d T) {L : List Nat} (hL : IsLeast (ssP d T) L) {z : Nat} (hz : z ∈ L) : subB z (usesT d T) = true := by
  obtain ⟨h1, h2, h3⟩ := (hL.2.1 z).1 hz
  unfold ssP at h2
  rw [Bool.and_eq_true, decide_eq_true_iff] at h2
  have h4 := h3 (z &&& usesT d T) (by unfold ssP; rw [sat_uses hn hW h1, h2.2, decide_eq_true (Nat.lt_of_le_of_lt Nat.and_le_left h1)]; rfl) (sub_bitsS.2 (fun j hj => by rw [Nat.testBit_and, Bool.and_eq_true] at hj; exact hj.1))
  unfold subB
  rw [h4, beq_self_eq_true]
theorem dis_off {z x k : Nat} (hz : z < 1024) (hx : x < 1024) : (x &&& offS z k == 0) = subB z (1023 - offS x k) := by
  have ho : offS x k < 1024 := offS_lt hx
  rw [Bool.eq_iff_iff, beq_iff_eq, sub_bitsS]
  constructor
  · intro h j hb
    have h6 := congrArg (fun x => x.testBit j) h
    simp only [Nat.testBit_and, offS_bit, hb, Bool.true_and, Nat.zero_testBit] at h6
    rw [compl_fact ho (bit_ten hz hb), offS_bit, h6]; rfl
  · intro h
    apply Nat.eq_of_testBit_eq
    intro j
    rw [Nat.testBit_and, Nat.zero_testBit, offS_bit]
    cases hb : z.testBit j
    · rw [Bool.false_and, Bool.and_false]
    · have h6 := h j hb
      rw [compl_fact ho (bit_ten hz hb), Bool.not_eq_true', offS_bit] at h6
      rw [Bool.true_and]; exact h6
theorem rest_any {n : Int} {d : Nat} {T : Tree} (hn : n ≤ 10) (hW : WF n d T) {L : List Nat} (hL : IsLeast (ssP d T) L) {x k : Nat} (hx : x < 1024) : (!((L.map (fun z => offS z k)).any (fun y => x &&& y == 0))) = blkB d T ((offS x k : Nat) : Int) := by
  have ho : offS x k < 1024 := offS_lt hx
  rw [blk_complM ho, ← ss_any hn hW hL (k := 1023 - offS x k) (by omega), List.any_map]
  congr 1
  rw [Bool.eq_iff_iff, List.any_eq_true, List.any_eq_true]
  constructor
  · rintro ⟨z, hz, h⟩; exact ⟨z, hz, by rw [← dis_off ((hL.2.1 z).1 hz).1 hx]; exact h⟩
  · rintro ⟨z, hz, h⟩; exact ⟨z, hz, by show (x &&& offS z k == 0) = true; rw [dis_off ((hL.2.1 z).1 hz).1 hx]; exact h⟩
theorem off_or (x k : Nat) : offS (x ||| 2 ^ k) k = offS x k := by
  apply Nat.eq_of_testBit_eq
  intro j
  rw [offS_bit, offS_bit, Nat.testBit_or, Nat.testBit_two_pow]
  by_cases h : j = k
  · subst h; simp
  · have h2 : ¬ k = j := fun e => h e.symm
    simp [h2]
theorem lfold_congr {p q : Nat → Bool} : ∀ (xs l : List Nat), (∀ x ∈ xs, p x = q x) → xs.foldl (lstep p) l = xs.foldl (lstep q) l
  | [], l, _ => rfl
  | x :: xs, l, h => by
    have e : lstep p l x = lstep q l x := by unfold lstep; rw [h x (by simp)]
    rw [List.foldl_cons, List.foldl_cons, e]
    exact lfold_congr xs _ (fun y hy => h y (List.mem_cons_of_mem _ hy))
theorem least_same2 {p q r : Nat → Bool} {u N : Nat} (hN : N ≤ 1024) (hu : u < N) (hp : ∀ t, p t = true ↔ t < 1024 ∧ r t = true) (hq : ∀ t, q t = true ↔ t < N ∧ r t = true) (hr : ∀ t, t < 1024 → r (t &&& u) = r t) {l m : List Nat} (h1 : IsLeast p l) (h2 : IsLeast q m) : l = m := by
  have hsub : ∀ t, subB (t &&& u) t = true := fun t => sub_bitsS.2 (fun j hj => by rw [Nat.testBit_and, Bool.and_eq_true] at hj; exact hj.1)
  have hle : ∀ t, t &&& u < N := fun t => Nat.lt_of_le_of_lt Nat.and_le_right hu
  refine asc_ext h1.1 h2.1 (fun t => ?_)
  rw [h1.2.1 t, h2.2.1 t]
  constructor
  · rintro ⟨a1, a2, a3⟩
    have b2 := (hp t).1 a2
    have b3 := a3 (t &&& u) ((hp _).2 ⟨by have := hle t; omega, by rw [hr t b2.1]; exact b2.2⟩) (hsub t)
    exact ⟨a1, (hq t).2 ⟨by rw [← b3]; exact hle t, b2.2⟩, fun y hy hyt => a3 y ((hp y).2 ⟨by have := ((hq y).1 hy).1; omega, ((hq y).1 hy).2⟩) hyt⟩
  · rintro ⟨a1, a2, a3⟩
    have b2 := (hq t).1 a2
    refine ⟨a1, (hp t).2 ⟨a1, b2.2⟩, fun y hy hyt => ?_⟩
    have b4 := (hp y).1 hy
    exact a3 y ((hq y).2 ⟨Nat.lt_of_le_of_lt (subB_le hyt) b2.1, b4.2⟩) hyt
theorem off_and (t u k : Nat) : offS (t &&& u) k &&& u = offS t k &&& u := by
  apply Nat.eq_of_testBit_eq
  intro j
  rw [Nat.testBit_and, Nat.testBit_and, offS_bit, offS_bit, Nat.testBit_and]
  cases t.testBit j <;> cases u.testBit j <;> simp
theorem wf_mem {ms : List Mem} {k : Nat} (hok : MemsOk ms.length ms) (hk : k < ms.length) (hd : (ms.getD k (false, .mk 0 [] [])).1 = true) : WF (ms.length : Int) 2 (trOf ms k) := by
  have hm : ms.getD k (false, .mk 0 [] []) ∈ ms := by
    rw [List.getD_eq_getElem?_getD, List.getElem?_eq_getElem hk]
    exact List.getElem_mem _
  exact (hok _ hm).1 hd
theorem decl_bit {ms : List Mem} {k : Nat} (hk : k < ms.length) (hd : (ms.getD k (false, .mk 0 [] [])).1 = true) : (declS ms ms.length).testBit k = true := by
  rw [declS_iff, hd, decide_eq_true hk]; rfl
set_option maxRecDepth 100000 in
/-- The two lists of least sets are one. -/
theorem meets_eq {ms : List Mem} {k : Nat} (hl : ms.length ≤ 10) (hok : MemsOk ms.length ms) (hk : k < ms.length) (hd : (ms.getD k (false, .mk 0 [] [])).1 = true) {L l : List Nat} (hL : IsLeast (ssP 2 (trOf ms k)) L) (h : IsLeast (meetB ms.length (L.map (fun z => offS z k))) l) : lfold (fun s => blkM 2 ms s k) (ordN 10) = l := by
  have hW := wf_mem hok hk hd
  have h10 : 2 ^ ms.length ≤ 2 ^ 10 := Nat.pow_le_pow_right (by omega) hl
  have h1 : 1 ≤ 2 ^ ms.length := Nat.one_le_two_pow
  have e : lfold (fun s => blkM 2 ms s k) (ordN 10) = lfold (fun s => decide (s < 1024) && blkM 2 ms s k) (ordN 10) := by
    unfold lfold
    refine lfold_congr _ _ (fun x hx => ?_)
    rw [decide_eq_true (show x < 1024 from ord_lt 10 (by omega) x hx)]; rfl
  rw [e]
  refine least_same2 (u := 2 ^ ms.length - 1) (N := 2 ^ ms.length) (r := fun s => blkM 2 ms s k) (by omega) (by omega) (fun t => by rw [Bool.and_eq_true, decide_eq_true_iff]) (fun t => ?_) (fun t ht => ?_) (lfold_least (fun t ht => by rw [Bool.and_eq_true, decide_eq_true_iff] at ht; exact ht.1)) h
  · unfold meetB
    rw [Bool.and_eq_true, decide_eq_true_iff]
    refine and_congr_right (fun ht => ?_)
    rw [rest_any (by omega) hW hL (by omega)]
    unfold blkM
    rw [decl_bit hk hd, Bool.true_and]
  · show blkM 2 ms (t &&& (2 ^ ms.length - 1)) k = blkM 2 ms t k
    unfold blkM
    congr 1
    have ho1 : offS (t &&& (2 ^ ms.length - 1)) k < 1024 := offS_lt (Nat.lt_of_le_of_lt Nat.and_le_left ht)
    have ho2 : offS t k < 1024 := offS_lt ht
    rw [← blk_uses (by omega) hW ho1, ← blk_uses (by omega) hW ho2]
    congr 2
    have hsu : ∀ j, (usesT 2 (trOf ms k)).testBit j = true → (2 ^ ms.length - 1).testBit j = true := fun j hj => by
      have := usesT_sub hl 2 _ hW j hj
      rw [Nat.testBit_two_pow_sub_one, decide_eq_true this]
    apply Nat.eq_of_testBit_eq
    intro j
    rw [Nat.testBit_and, Nat.testBit_and, offS_bit, offS_bit, Nat.testBit_and]
    cases hb : (usesT 2 (trOf ms k)).testBit j
    · rw [Bool.and_false, Bool.and_false]
    · rw [hsu j hb]; simp only [Bool.and_true]
theorem rest_lt {ms : List Mem} {k : Nat} (hl : ms.length ≤ 10) (hok : MemsOk ms.length ms) (hk : k < ms.length) (hd : (ms.getD k (false, .mk 0 [] [])).1 = true) {L : List Nat} (hL : IsLeast (ssP 2 (trOf ms k)) L) : ∀ t ∈ L.map (fun z => offS z k), t < 2 ^ ms.length := fun t ht => by
  have hW := wf_mem hok hk hd
  obtain ⟨z, hz, rfl⟩ := List.mem_map.1 ht
  refine offS_lt ?_
  have h1 := ss_uses (by omega) hW hL hz
  refine Nat.lt_pow_two_of_testBit _ (fun j hj => ?_)
  cases hb : z.testBit j
  · rfl
  · have := usesT_sub hl 2 _ hW j (sub_bitsS.1 h1 j hb)
    omega
theorem or_factM (s K : Nat) (hs : s < 1024) (hK : K < 10) : bits .or .i64 (s : Int) (IntKind.i64.wrap (2 ^ K)) = ((s ||| 2 ^ K : Nat) : Int) := by
  have all : ∀ S : Fin 1024, ∀ K : Fin 10, bits .or .i64 (S.val : Int) (IntKind.i64.wrap (2 ^ K.val)) = ((S.val ||| 2 ^ K.val : Nat) : Int) := by decide +kernel
  exact all ⟨s, hs⟩ ⟨K, hK⟩
theorem keepBM {w W W' : World} {g : Nat} {v u : Value} {ms : List Mem} {l : List Int} (h : W.cell? ⟨g, 0, none⟩ = some v ∧ CMade w g v ms W ∧ NodesAt (fun b => w.heap.size < b) W u l) (hb : Below W.heap.size W W') : W'.cell? ⟨g, 0, none⟩ = some v ∧ CMade w g v ms W' ∧ NodesAt (fun b => w.heap.size < b) W' u l :=
  ⟨(h.2.1.bel hb).cell, h.2.1.bel hb, h.2.2.below hb⟩

set_option maxRecDepth 100000 in
set_option maxHeartbeats 8000000 in
theorem walkBlockingMeets (a0 : Option Addr) (len0 cap0 : Nat) (z0 : List Int) (w : World) (w0 : IsRow .i64 w a0 len0 cap0 z0) :
    Calls Try.prog 3 #[.slice a0 len0 cap0] w fun e w' => e = .returned (.bool true) ∧ Below w.heap.size w w' := by
  obtain ⟨i0, hin, hz0, hz1, hz2⟩ := info_parts infoInt
  have HR := Lib.hid w0
  clear w0
  go_enter Try.func3, Try.ntmps3
  go_wp2_with fail
  refine (TNew_run _ _ _ _ _ HR.out).mono ?_
  rintro e v0 ⟨rfl, hs0, hb0⟩
  have HS0 := Lib.hid hs0
  have HB0 := Lib.hid hb0
  have hsl := hs0.lt
  clear hs0 hb0
  go_wp2_with fail
  refine (config_run _ 7 (by omega) (by omega) _ HS0.out).mono ?_
  rintro e v2 ⟨cv, ms, rfl, hl1, hl2, hM, hok, hs2, hg2⟩
  have hM0 := id hM
  obtain ⟨A, c, hcv, _⟩ := hM0
  obtain ⟨L, hL⟩ : ∃ L, ms.length = L := ⟨_, rfl⟩
  have HOK := Lib.hid hok
  rw [hL] at hcv
  subst hcv
  have hba := balloc (bref v2) (.cells #[.slice A L c] 27)
  have HM := Lib.hid (show CMade w v2.heap.size (.slice A L c) ms (v2.alloc (.cells #[.slice A L c] 27)) from
    ⟨hs2.alloc _, alloc_at rfl, (hM.both (Q := fun b => w.heap.size < b) (fun _ _ _ => rfl) (fun k _ hk => by omega)).below hba, hs2.lt, bstep (bgrownC HB0.out hg2 (Nat.le_refl _)) hba⟩)
  have HL := Lib.hid hL
  have hl10 : ms.length ≤ 10 := by omega
  have HL10 := Lib.hid hl10
  have hL10 : L ≤ 10 := by omega
  have hL1 : 1 ≤ L := by omega
  clear hM hok hs2 hg2 hba HS0 HB0 hl1 hl2 hL
  go_upto_region 3 with fail
  generalize v2.alloc (.cells #[.slice A L c] 27) = W1 at *
  generalize v2.heap.size = g at *
  have c0 := HM.out.cell
  go_wp2_with fail
  refine (TN_run _ _ _ (by omega) (by omega) HM.out.tape).mono ?_
  rintro e W2 ⟨r, hr0, hr1, rfl, hs2, hg2⟩
  obtain ⟨k, rfl⟩ := Int.eq_ofNat_of_zero_le hr0
  have HM2 := Lib.hid (HM.out.grown hs2 hg2)
  have hkL : k < L := by omega
  have HKM := Lib.hid (show k < ms.length by rw [HL.out]; exact hkL)
  have hk10 : k < 10 := by omega
  clear hs2 hg2 HM c0 hr0 hr1
  obtain ⟨b, off, t, A1, n1, c1, A2, n2, c2, hA, hP, hbl, e0, e1, e2, e3, hT⟩ := memBox (k := k) (m := ms.getD k (false, .mk 0 [] [])) (ms := ms) (show MemsAt (fun b => w.heap.size < b) 2 W2 (.slice A ms.length c) ms from by rw [HL.out]; exact HM2.out.mems) (by rw [List.getD_eq_getElem?_getD, List.getElem?_eq_getElem HKM.out]; rfl)
  subst hA
  obtain ⟨dk, hdk⟩ : ∃ dk, (ms.getD k (false, .mk 0 [] [])).1 = dk := ⟨_, rfl⟩
  have HDK := Lib.hid hdk
  rw [hdk] at e0
  have HT := Lib.hid (show TAt (fun b => w.heap.size < b) 2 W2 (.int .i64 t) (.slice A1 n1 c1) (.slice A2 n2 c2) (trOf ms k) from hT)
  have c0 := HM2.out.cell
  clear hT hdk hP hbl
  cases dk
  · clear e1 e2 e3 HT
    go_wp2_with fail
    refine (awake11 _).mono ?_
    rintro e W99 ⟨rfl, hb9⟩
    have HF := Lib.hid (HM2.out.bel hb9).below
    clear hb9
    go_wp2_with fail
    go_ret
    exact ⟨rfl, HF.out⟩
  have HWF := Lib.hid (wf_mem HOK.out HKM.out HDK.out)
  have HSZ := Lib.hid (show sizeT 2 (trOf ms k) ≤ 200 from Nat.le_trans (D3.sizeT2_43 HWF.out) (by omega))
  go_wp2_with fail
  refine (rslices_run _ ms.length (by have := HL10.out; omega) 2 (by omega) (trOf ms k) _ _ _ _ HT.out HWF.out HSZ.out).mono ?_
  rintro e W3 ⟨⟨vs, Ls, rfl, hrs, hls⟩, hb3⟩
  have HLS := Lib.hid hls
  have HM3 := Lib.hid (HM2.out.bel hb3)
  have HN3 := Lib.hid ((NodesAt.of_ownZ hrs).both (w' := W3) (Q := fun _ => True) (fun _ _ _ => rfl) (fun _ _ _ => trivial))
  obtain ⟨As, cs, rfl⟩ := own_slice hrs
  have hml := hls.2.2
  obtain ⟨m, hm⟩ : ∃ m, Ls.length = m := ⟨_, rfl⟩
  have HMm := Lib.hid hm
  rw [hm] at HN3 hml ⊢
  clear hls hb3 hrs hm e0 e1 e2 e3 c0 HT HM2
  have hgW3 := HM3.out.lt
  have hlow3 := HM3.out.low
  obtain ⟨B3, hB3⟩ : ∃ B3, W3.heap.size = B3 := ⟨_, rfl⟩
  have HB3 := Lib.hid hB3
  rw [hB3] at hgW3
  clear hB3
  obtain ⟨pk, hpk⟩ : ∃ pk, 2 ^ k = pk := ⟨_, rfl⟩
  have HPK := Lib.hid hpk
  have hwk : wrap64 ((2 : Int) ^ k) = (pk : Int) := by rw [← hpk]; exact pow11 k (by omega)
  clear hpk
  go_wp2_with fail
  go_loopw [8, 49] (fun rv tv W => ∃ (j : Nat) (R : List Nat) (rw' : Value), rv = rw' ∧ tv = .int .i64 (j : Int) ∧ j ≤ m ∧ Hid (R = (Ls.take j).map (fun z => offS z k)) ∧ Hid (W.ownsRow B3 3 1 rw' R.length ((zs R).map (Value.int .i64))) ∧ Hid (Below W3.heap.size W3 W)) (fun _ tv _ => m - (intOf tv).toNat)
  case atStart => exact ⟨0, [], .slice none 0 0, rfl, rfl, Nat.zero_le _, Lib.hid rfl, Lib.hid (World.ownsRow_nil _ _ _ _), Lib.hid (bref _)⟩
  case round =>
    obtain ⟨j, R, rv, hrv, rfl, hj, hR, hRow, hBe⟩ := hrel
    replace hrv := hrv.symm
    subst hrv
    obtain ⟨Ar, cr, hz⟩ := own_slice hRow.out
    subst hz
    by_cases hlt : j < m
    · obtain ⟨z, hz⟩ : ∃ z, Ls[j]? = some z := ⟨_, List.getElem?_eq_getElem (by rw [HMm.out]; exact hlt)⟩
      obtain ⟨An, cn', hAn, hcl⟩ := HN3.out.below hBe.out
      injection hAn with q1 q2 q3
      subst q1
      obtain ⟨bn, on, hbn, _, hcn⟩ := hcl j (by rw [zs_len, HMm.out]; exact hlt)
      subst hbn
      rw [zs_get, show Ls.getD j 0 = z by rw [List.getD_eq_getElem?_getD, hz]; rfl] at hcn
      have hz10 := ((HLS.out.2.1 z).1 (List.mem_of_getElem? hz)).1
      have hoff : bits .andNot .i64 (z : Int) (pk : Int) = ((offS z k : Nat) : Int) := by rw [← hwk]; exact off_fact z k hz10 hk10
      have HR2 := Lib.hid (show R ++ [offS z k] = (Ls.take (j + 1)).map (fun z => offS z k) from by rw [List.take_add_one, hz, hR.out, List.map_append]; rfl)
      have hRl : R.length ≤ 1024 := by rw [hR.out, List.length_map, List.length_take]; have := HMm.out; omega
      generalize offS z k = y at hoff HR2
      have hown := hRow.out
      have hbs : B3 ≤ wr.heap.size := by rw [← HB3.out]; exact hBe.out.size
      clear hcl q2 q3 hz hz10 hR hRow
      go_wp2_with (at_builtin; refine wpList_append_own _ rfl _ _ 22 rfl B3 3 i0 (.int .i64 0) 1 8 Try.underlying22 hin hz0 hz1 hz2 rfl (by decide) _ _ _ rfl (hown.alloc _) ⟨wr.heap.size, 0, none⟩ 1 1 [.int .i64 (y : Int)] rfl rfl (cell_one_new _ _ _) (fun u hu => by simp at hu; subst hu; rfl) (by unfold maxLen; omega) (by omega) (by simp; omega) ?_; intro v' w6 hown' hgrow hnil)
      have HO6 := Lib.hid (own_snocZ hown')
      have HB6 := Lib.hid (Below.grown (balloc hBe.out (.cells #[.int .i64 (y : Int)] 3)) hgrow (by simp; exact Nat.le_succ_of_le hBe.out.size) (fun j hj => by rw [HB3.out]; exact (hown.lt j hj).1))
      clear hown' hgrow hnil hown hcn
      go_roundw
      case rel => exact ⟨j + 1, R ++ [y], _, rfl, by go_num, hlt, HR2, HO6, HB6⟩
      case measure => simp [intOf]; omega
    · obtain rfl : j = m := by omega
      have HRA := Lib.hid (show R = Ls.map (fun z => offS z k) from by rw [hR.out, List.take_of_length_le (by rw [HMm.out]; exact Nat.le_refl _)])
      have HMr := Lib.hid (HM3.out.bel hBe.out)
      have hRl : R.length ≤ 1024 := by rw [HRA.out, List.length_map, HMm.out]; exact hml
      have HNR := Lib.hid ((NodesAt.of_ownZ hRow.out).both (w' := wr) (Q := fun b => w.heap.size < b) (fun _ _ _ => rfl) (fun b _ (hb : B3 ≤ b) => by omega))
      have HLR := Lib.hid (show ∀ t ∈ R, t < 2 ^ L from by rw [HRA.out, ← HL.out]; exact rest_lt HL10.out HOK.out HKM.out HDK.out HLS.out)
      have HBL := Lib.hid (show ∀ x, x < 1024 → (!(R.any (fun y => x &&& y == 0))) = blkM 2 ms x k from fun x hx => by
        rw [HRA.out, rest_any (by have := HL10.out; omega) HWF.out HLS.out hx]
        unfold blkM
        rw [decl_bit HKM.out HDK.out, Bool.true_and])
      have HEQ := Lib.hid (show ∀ l, IsLeast (meetB L R) l → lfold (fun s => blkM 2 ms s k) (ordN 10) = l from fun l h => meets_eq HL10.out HOK.out HKM.out HDK.out HLS.out (by rw [HL.out, ← HRA.out]; exact h))
      obtain ⟨mr, hmr⟩ : ∃ mr, R.length = mr := ⟨_, rfl⟩
      have HMR := Lib.hid hmr
      rw [hmr] at HNR hRl ⊢
      clear hR hRow hBe hmr HN3 HMm
      go_wp2_with fail
      go_loopw [11] (fun tv W => ∃ i : Nat, i ≤ 20 ∧ tv = .int .i64 (i : Int) ∧ Hid (CMade w g (.slice (some ⟨b, off, none⟩) L c) ms W) ∧ Hid (NodesAt (fun b => w.heap.size < b) W (.slice Ar mr cr) (zs R))) (fun tv _ => 20 - (intOf tv).toNat)
      case atStart => exact ⟨0, by omega, rfl, HMr, HNR⟩
      case round =>
        obtain ⟨i, hi, rfl, hMi, hNi⟩ := hrel
        by_cases hlt2 : i < 20
        · have hTp := hMi.out.tape
          go_wp2_with fail
          refine (TN_run _ _ _ (by omega) (by omega) hTp).mono ?_
          rintro e W4 ⟨r4, hr40, hr41, rfl, hs4, hg4⟩
          obtain ⟨x, rfl⟩ := Int.eq_ofNat_of_zero_le hr40
          have hM4 := Lib.hid (hMi.out.grown hs4 hg4)
          have hN4 := Lib.hid (hNi.out.both (w' := W4) (Q := fun b => w.heap.size < b) (fun p hp hP => hg4.block p hp (by simp; omega)) (fun _ _ h => h))
          have hx10 : x < 1024 := by omega
          clear hs4 hg4 hr40 hr41 hMi hNi hTp
          go_wp2_with fail
          go_loopw [13, 69] (fun u tv W => ∃ (j : Nat) (a : Bool), j ≤ mr ∧ u = .bool a ∧ tv = .int .i64 (j : Int) ∧ Hid (a = !((R.take j).any (fun y => x &&& y == 0))) ∧ Hid (Below W4.heap.size W4 W)) (fun _ tv _ => mr - (intOf tv).toNat)
          case atStart => exact ⟨0, true, Nat.zero_le _, rfl, rfl, Lib.hid rfl, Lib.hid (bref _)⟩
          case round =>
            obtain ⟨j, a, hj, rfl, rfl, hA, hBe⟩ := hrel
            by_cases hjm : j < mr
            · obtain ⟨y, hy⟩ : ∃ y, R[j]? = some y := ⟨_, List.getElem?_eq_getElem (by rw [HMR.out]; exact hjm)⟩
              obtain ⟨An, cn', hAn, hcl⟩ := (hN4.out.below hBe.out)
              injection hAn with q1 q2 q3
              subst q1
              obtain ⟨bn, on, hbn, _, hcn⟩ := hcl j (by rw [zs_len, HMR.out]; exact hjm)
              subst hbn
              rw [zs_get, show R.getD j 0 = y by rw [List.getD_eq_getElem?_getD, hy]; rfl] at hcn
              have hy10 : y < 1024 := by
                have h1 := HLR.out y (List.mem_of_getElem? hy)
                have h2 : 2 ^ L ≤ 2 ^ 10 := Nat.pow_le_pow_right (by omega) hL10
                omega
              have hand := i64_and_nat x y (by omega) (by omega)
              obtain ⟨q, hq⟩ : ∃ q, (!(x &&& y == 0)) = q := ⟨_, rfl⟩
              have hq2 : (((x &&& y : Nat) : Int) != 0) = q := by
                rw [← hq]
                show (!(((x &&& y : Nat) : Int) == 0)) = _
                congr 1
                rw [Bool.eq_iff_iff, beq_iff_eq, beq_iff_eq]; omega
              have HA2 := Lib.hid (show (a && q) = !((R.take (j + 1)).any (fun y => x &&& y == 0)) by
                rw [List.take_add_one, hy, List.any_append, hA.out, ← hq]; simp)
              generalize x &&& y = xy at hand hq2
              clear hcl q2 q3 hy hq hA hy10
              cases a <;> cases q
              all_goals
                go_wp2_with fail
                go_roundw
                case rel => exact ⟨j + 1, _, hjm, rfl, by go_num, HA2, hBe⟩
                case measure => simp [intOf]; omega
            · obtain rfl : j = mr := by omega
              have HA3 := Lib.hid (show blkM 2 ms x k = a from by
                rw [hA.out, List.take_of_length_le (by rw [HMR.out]; exact Nat.le_refl _)]
                exact (HBL.out x hx10).symm)
              have hM5 := Lib.hid (hM4.out.bel hBe.out)
              have hN5 := Lib.hid (hN4.out.below hBe.out)
              have hor : bits .or .i64 (x : Int) (IntKind.i64.wrap ((2 : Int) ^ k)) = ((x ||| 2 ^ k : Nat) : Int) := or_factM x k hx10 hk10
              have hx2 : x ||| 2 ^ k < 1024 := Nat.or_lt_two_pow (n := 10) hx10 (Nat.pow_lt_pow_right (by omega) hk10)
              have HA4 := Lib.hid (show blkM 2 ms (x ||| 2 ^ k) k = a from by
                rw [← HA3.out]; unfold blkM; rw [off_or])
              generalize x ||| 2 ^ k = x2 at hor hx2 HA4
              have HC1 := Lib.hid (fun W (h : MemsAt (fun b => w.heap.size < b) 2 W (.slice (some ⟨b, off, none⟩) L c) ms) => blocks_run _ 2 ms _ k x W HL10.out hx10 hk10 h)
              have HC2 := Lib.hid (fun W (h : MemsAt (fun b => w.heap.size < b) 2 W (.slice (some ⟨b, off, none⟩) L c) ms) => blocks_run _ 2 ms _ k x2 W HL10.out hx2 hk10 h)
              rw [HA3.out] at HC1
              rw [HA4.out] at HC2
              have hnn : (!(a == a)) = false := by simp
              have hnn2 : (a != a) = false := by simp
              have hk0 : (0 : Int) ≤ (k : Int) := by omega
              have hk64 : (k : Int) < 64 := by omega
              have hS := Lib.hid (show wr.drew.cell? ⟨g, 0, none⟩ = some (.slice (some ⟨b, off, none⟩) L c) ∧ CMade w g (.slice (some ⟨b, off, none⟩) L c) ms wr.drew ∧ NodesAt (fun b => w.heap.size < b) wr.drew (.slice Ar j cr) (zs R) from keepBM ⟨hM5.out.cell, hM5.out, hN5.out⟩ (bdrew (bref _)))
              clear hA hBe hM4 hN4 hwk
              go_upto_region 23 with fail
              go_region_held3 (fun W => W.cell? ⟨g, 0, none⟩ = some (.slice (some ⟨b, off, none⟩) L c) ∧ CMade w g (.slice (some ⟨b, off, none⟩) L c) ms W ∧ NodesAt (fun b => w.heap.size < b) W (.slice Ar j cr) (zs R)) (first | exact hS.out | exact hSK | go_keep)
                (first
                  | (go_at_call_of 10 (Value.int .i64 (x2 : Int)); refine (HC2.out _ (by exact (show (_ ∧ CMade w g (.slice (some ⟨b, off, none⟩) L c) ms _ ∧ _) from by assumption).2.1.mems)).mono ?_; rintro e WK ⟨rfl, hbK⟩; have hSK := keepBM (by assumption) hbK; clear hbK)
                  | (go_at_call_of 10 (Value.int .i64 (x : Int)); refine (HC1.out _ (by exact (show (_ ∧ CMade w g (.slice (some ⟨b, off, none⟩) L c) ms _ ∧ _) from by assumption).2.1.mems)).mono ?_; rintro e WK ⟨rfl, hbK⟩; have hSK := keepBM (by assumption) hbK; clear hbK))
              all_goals
                have HM9 := Lib.hid (show CMade w g (.slice (some ⟨b, off, none⟩) L c) ms _ from hSK.2.1)
                have HN9 := Lib.hid (show NodesAt (fun b => w.heap.size < b) _ (.slice Ar j cr) (zs R) from hSK.2.2)
                clear hSK hS
                go_wp2_with fail
                go_roundw
                case rel => exact ⟨i + 1, hlt2, by go_num, HM9, HN9⟩
                case measure => simp [intOf]; omega
        · obtain rfl : i = 20 := by omega
          have c0 := hMi.out.cell
          go_wp2_with fail
          refine (rmeeting_run _ _ R L hL10 HLR.out (by rw [HMR.out]; exact hRl) _ hNi.out).mono ?_
          rintro e W4 ⟨vc, lc, rfl, hrc, hlc, hb4⟩
          have HE2 := Lib.hid (HEQ.out _ hlc)
          have HLC := Lib.hid hlc.2.2
          have HM4 := Lib.hid (hMi.out.bel hb4)
          have HP4 := Lib.hid ((NodesAt.of_ownZ hrc).both (w' := W4) (Q := fun _ => True) (fun _ _ _ => rfl) (fun _ _ _ => trivial))
          obtain ⟨Ac, kc, rfl⟩ := own_slice hrc
          clear hrc hb4 hlc c0
          have c0 := HM4.out.cell
          go_wp2_with fail
          refine (bleast_run _ ms _ k _ HL10.out HKM.out HDK.out HOK.out HM4.out.mems).mono ?_
          rintro e W5 ⟨⟨vd, rfl, hrd⟩, hb5⟩
          rw [HE2.out] at hrd
          have HM5 := Lib.hid (HM4.out.bel hb5)
          have HP5 := Lib.hid (HP4.out.below hb5)
          have HQ5 := Lib.hid ((NodesAt.of_ownZ hrd).both (w' := W5) (Q := fun _ => True) (fun _ _ _ => rfl) (fun _ _ _ => trivial))
          obtain ⟨Ad, kd, rfl⟩ := own_slice hrd
          clear hrd hb5 c0
          have HZA := Lib.hid (show (zs lc).length ≤ 1000000 by rw [zs_len]; have := HLC.out; omega)
          go_wp2_with fail
          refine (ints_run _ _ _ _ (zs lc) _ HZA.out HQ5.out HP5.out).mono ?_
          rintro e W6 ⟨rfl, hb6⟩
          have HM6 := Lib.hid (HM5.out.bel hb6)
          clear hb6
          go_wp2_with fail
          refine (awake11 _).mono ?_
          rintro e W8 ⟨rfl, hb8⟩
          have HF := Lib.hid (HM6.out.bel hb8).below
          clear hb8
          go_wp2_with fail
          go_ret
          exact ⟨rfl, HF.out⟩
end Go.Proofs.Ytnfdacfhhkahhaa
