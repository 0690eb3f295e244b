/- The walk of BallotsPrepares: what is prepared by two ballots is just what both together give up. -/
import Derived.Test.YtolodegbilagbaaBallotsLowestWalk
namespace Go.Proofs.Ytolodegbilagbaa
set_option linter.unusedVariables false
open Go.RowKit

theorem lessB_iff {c d : Int} {i j : Nat} : lessB c i d j = true ↔ c < d ∨ (c = d ∧ i < j) := by unfold lessB; simp
theorem covB_iff {c d : Int} {i j : Nat} (hc : 1 ≤ c) : covB c i d j = true ↔ i = j ∧ d ≤ c := by unfold covB zeroB; simp; omega
theorem zeroB_no {c : Int} {i : Nat} (hc : 1 ≤ c) : zeroB c i = false := by unfold zeroB; simp; omega
/-- q as the law has it: none, or a ballot that is less than p and of another value. -/
def QOk (c : Int) (i : Nat) (d : Int) (j : Nat) : Prop := (d = 0 ∧ j = 0) ∨ (1 ≤ d ∧ 1 ≤ j ∧ lessB d j c i = true ∧ i ≠ j)
/-- What is prepared aborts every lesser ballot of another value. -/
theorem prep_math {c d f x : Int} {i j k v : Nat} (hc : 1 ≤ c) (hf : 1 ≤ f) (hx : 1 ≤ x) (hv : 1 ≤ v) (hi : 1 ≤ i) (hk : 1 ≤ k) (hq : QOk c i d j) (hp : prepB c i d j f k = true)
    (h1 : lessB x v f k = true) (h2 : v ≠ k) (h3 : abB c i x v = false) : abB d j x v = true := by
  rw [lessB_iff] at h1
  rw [abB_false hc] at h3
  rcases hq with ⟨rfl, rfl⟩ | ⟨hd, hj, hl, hne⟩
  · exfalso
    have : covB c i f k = true := by
      unfold prepB at hp
      have z1 : covB 0 0 f k = false := by unfold covB zeroB; simp
      have z2 : zeroB 0 0 = true := by unfold zeroB; simp
      rw [z1, z2] at hp
      simpa using hp
    rw [covB_iff hc] at this
    omega
  · rw [lessB_iff] at hl
    rw [abB_iff hd]
    unfold prepB at hp
    rw [zeroB_no hd] at hp
    simp only [Bool.or_eq_true, Bool.not_false, Bool.true_and, covB_iff hc, covB_iff hd, lessB_iff] at hp
    omega
set_option maxHeartbeats 8000000 in
theorem walkBallotsPrepares (a0 : Option Addr) (len0 cap0 : Nat) (z0 : List Int) (w : World) (w0 : IsRow .i64 w a0 len0 cap0 z0) :
    Calls Try.prog 12 #[.slice a0 len0 cap0] w fun e w' => e = .returned (.bool true) ∧ Below w.heap.size w w' := by
  have HR := Lib.hid w0
  clear w0
  go_enter Try.func12, Try.ntmps12
  go_wp2_with fail
  refine (New_run _ _ _ _ _ HR.out).mono ?_
  rintro e v0 ⟨rfl, hs0, hb0⟩
  have HS0 := Lib.hid hs0
  clear hs0
  go_wp2_with fail
  refine (Low_run _ _ HS0.out).mono ?_
  rintro e v1 ⟨c, i, hc0, hc1, hi0, hi1, rfl, hs1, hg1⟩
  have HB1 := Lib.hid (bgrown hb0 hg1 (Nat.le_refl _))
  have HS1 := Lib.hid hs1
  clear hs1 hg1 hb0
  go_wp2_with fail
  refine (Low_run _ _ HS1.out).mono ?_
  rintro e v2 ⟨d, j, hd0, hd1, hj0, hj1, rfl, hs2, hg2⟩
  have HB2 := Lib.hid (bgrown HB1.out hg2 (Nat.le_refl _))
  have HS2 := Lib.hid hs2
  clear hs2 hg2 HB1
  go_wp2_with fail
  refine (Low_run _ _ HS2.out).mono ?_
  rintro e v3 ⟨f, k, hf0, hf1, hk0, hk1, rfl, hs3, hg3⟩
  have HB3 := Lib.hid (bgrown HB2.out hg3 (Nat.le_refl _))
  clear hs3 hg3 HB2
  go_wp2_with fail
  have hP : BalAt (((v3.alloc (.cells #[.int .i64 c, .string (valOf i)] 52)).alloc (.cells #[.int .i64 d, .string (valOf j)] 52)).alloc (.cells #[.int .i64 f, .string (valOf k)] 52)) v3.heap.size c i := ((BalAt.new _ _ _).alloc _).alloc _
  have hQ : BalAt (((v3.alloc (.cells #[.int .i64 c, .string (valOf i)] 52)).alloc (.cells #[.int .i64 d, .string (valOf j)] 52)).alloc (.cells #[.int .i64 f, .string (valOf k)] 52)) (v3.heap.size + 1) d j := by
    have := (BalAt.new (v3.alloc (.cells #[.int .i64 c, .string (valOf i)] 52)) d j).alloc (.cells #[.int .i64 f, .string (valOf k)] 52)
    simpa using this
  have hR : BalAt (((v3.alloc (.cells #[.int .i64 c, .string (valOf i)] 52)).alloc (.cells #[.int .i64 d, .string (valOf j)] 52)).alloc (.cells #[.int .i64 f, .string (valOf k)] 52)) (v3.heap.size + 1 + 1) f k := by
    have := BalAt.new ((v3.alloc (.cells #[.int .i64 c, .string (valOf i)] 52)).alloc (.cells #[.int .i64 d, .string (valOf j)] 52)) f k
    simpa using this
  have HB4 := Lib.hid (balloc (balloc (balloc HB3.out (.cells #[.int .i64 c, .string (valOf i)] 52)) (.cells #[.int .i64 d, .string (valOf j)] 52)) (.cells #[.int .i64 f, .string (valOf k)] 52))
  have hgw : w.heap.size ≤ v3.heap.size := HB3.out.size
  generalize ((v3.alloc (.cells #[.int .i64 c, .string (valOf i)] 52)).alloc (.cells #[.int .i64 d, .string (valOf j)] 52)).alloc (.cells #[.int .i64 f, .string (valOf k)] 52) = W4 at *
  generalize v3.heap.size = g at *
  have hP4 := Lib.hid hP
  have hQ4 := Lib.hid hQ
  have hR4 := Lib.hid hR
  obtain ⟨lP4, mP4⟩ := hP.cs
  obtain ⟨lQ4, mQ4⟩ := hQ.cs
  obtain ⟨lR4, mR4⟩ := hR.cs
  clear hP hQ hR
  refine (less_run _ _ _ _ _ (by omega) (by omega)).mono ?_
  rintro e W5 ⟨rfl, hb5⟩
  have HB5 := Lib.hid (bstep HB4.out hb5)
  have hP5 := Lib.hid (hP4.out.below hb5)
  obtain ⟨lP5, mP5⟩ := hP5.out.cs
  have hQ5 := Lib.hid (hQ4.out.below hb5)
  obtain ⟨lQ5, mQ5⟩ := hQ5.out.cs
  have hR5 := Lib.hid (hR4.out.below hb5)
  obtain ⟨lR5, mR5⟩ := hR5.out.cs
  clear hb5
  cases hl : lessB d j c i
  · have fQ0 := hQ5.out.fr 0
    have fQ1 := hQ5.out.fr 1
    go_wp2_with fail
    have hP6 := Lib.hid ((hP5.out.far (p := ⟨g + 1, 0, none⟩) (by simp) (.int .i64 0)).far (p := ⟨g + 1, 1, none⟩) (by simp) (.string ⟨#[]⟩))
    have hQ6 := Lib.hid (hQ5.out.store 0 0)
    have hR6 := Lib.hid ((hR5.out.far (p := ⟨g + 1, 0, none⟩) (by simp) (.int .i64 0)).far (p := ⟨g + 1, 1, none⟩) (by simp) (.string ⟨#[]⟩))
    have HB6 := Lib.hid (bset (bset HB5.out (p := ⟨g + 1, 0, none⟩) (by simp; omega) (.int .i64 0)) (p := ⟨g + 1, 1, none⟩) (by simp; omega) (.string ⟨#[]⟩))
    change Hid (BalAt ((W5.setCell ⟨g + 1, 0, none⟩ (.int .i64 0)).setCell ⟨g + 1, 1, none⟩ (.string ⟨#[]⟩)) (g + 1) 0 0) at hQ6
    generalize (W5.setCell ⟨g + 1, 0, none⟩ (.int .i64 0)).setCell ⟨g + 1, 1, none⟩ (.string ⟨#[]⟩) = W7 at *
    clear lP5 mP5 lQ5 mQ5 lR5 mR5
    obtain ⟨D, J, hJ4, hq7, hP7, hQ7, hR7, HB7⟩ : ∃ (D : Int) (J : Nat), J ≤ 4 ∧ Hid (QOk c i D J) ∧ Hid (BalAt W7 g c i) ∧ Hid (BalAt W7 (g + 1) D J) ∧ Hid (BalAt W7 (g + 1 + 1) f k) ∧ Hid (Below w.heap.size w W7) := ⟨0, 0, by omega, Lib.hid (.inl ⟨rfl, rfl⟩), hP6, hQ6, hR6, HB6⟩
    go_loopw [7, 8] (fun u t wr => ∃ (x : Int) (b : Bool), t = .int .i64 x ∧ 1 ≤ x ∧ x ≤ 8 ∧ u = .bool b ∧ Hid (prepB c i D J f k = true → b = true) ∧ Hid (BalAt wr g c i) ∧ Hid (BalAt wr (g + 1) D J) ∧ Hid (BalAt wr (g + 1 + 1) f k) ∧ Hid (Below w.heap.size w wr)) (fun _ t _ => (8 - intOf t).toNat)
    case atStart => exact ⟨1, true, rfl, by omega, by omega, rfl, Lib.hid (fun _ => rfl), hP7, hQ7, hR7, HB7⟩
    case round =>
      obtain ⟨x, b, rfl, hx0, hx1, rfl, hall0, hPr0, hQr0, hRr0, hBr0⟩ := hrel
      by_cases hlt : x ≤ 7
      · go_wp2_with fail
        have hV0 := ValsAt.new wr
        have hPr1 := Lib.hid (hPr0.out.alloc (.cells #[.string ⟨#[97]⟩, .string ⟨#[98]⟩, .string ⟨#[99]⟩, .string ⟨#[97, 97]⟩] 9))
        have hQr1 := Lib.hid (hQr0.out.alloc (.cells #[.string ⟨#[97]⟩, .string ⟨#[98]⟩, .string ⟨#[99]⟩, .string ⟨#[97, 97]⟩] 9))
        have hRr1 := Lib.hid (hRr0.out.alloc (.cells #[.string ⟨#[97]⟩, .string ⟨#[98]⟩, .string ⟨#[99]⟩, .string ⟨#[97, 97]⟩] 9))
        have hBr1 := Lib.hid (balloc hBr0.out (.cells #[.string ⟨#[97]⟩, .string ⟨#[98]⟩, .string ⟨#[99]⟩, .string ⟨#[97, 97]⟩] 9))
        generalize wr.alloc (.cells #[.string ⟨#[97]⟩, .string ⟨#[98]⟩, .string ⟨#[99]⟩, .string ⟨#[97, 97]⟩] 9) = wo at *
        generalize wr.heap.size = h at *
        have hV1 := Lib.hid hV0
        clear hV0
        go_loopw [7, 36] (fun u t wr => ∃ (q : Nat) (b : Bool), q ≤ 4 ∧ t = .int .i64 q ∧ u = .bool b ∧ Hid (prepB c i D J f k = true → b = true) ∧ Hid (BalAt wr g c i) ∧ Hid (BalAt wr (g + 1) D J) ∧ Hid (BalAt wr (g + 1 + 1) f k) ∧ Hid (ValsAt wr h) ∧ Hid (Below w.heap.size w wr)) (fun _ t _ => 4 - (intOf t).toNat)
        case atStart => exact ⟨0, b, by omega, rfl, rfl, hall0, hPr1, hQr1, hRr1, hV1, hBr1⟩
        case round =>
          clear hall0 hPr0 hQr0 hRr0 hBr0 hPr1 hQr1 hRr1 hBr1 hV1
          obtain ⟨q, b, hq5, rfl, rfl, hall, hPr, hQr, hRr, hVr, hBr⟩ := hrel
          by_cases hq4 : q < 4
          · have hv4 : q + 1 ≤ 4 := by omega
            have hcell := hVr.out.at_ hq4
            have hX20 := Lib.hid (BalAt.new wr x (q + 1))
            have hV20 := Lib.hid (hVr.out.below (balloc (bref _) (.cells #[.int .i64 x, .string (valOf (q + 1))] 52)))
            have hP20 := Lib.hid (hPr.out.alloc (.cells #[.int .i64 x, .string (valOf (q + 1))] 52))
            have hQ20 := Lib.hid (hQr.out.alloc (.cells #[.int .i64 x, .string (valOf (q + 1))] 52))
            have hR20 := Lib.hid (hRr.out.alloc (.cells #[.int .i64 x, .string (valOf (q + 1))] 52))
            have HB20 := Lib.hid (balloc hBr.out (.cells #[.int .i64 x, .string (valOf (q + 1))] 52))
            obtain ⟨lP, mP⟩ := hPr.out.cs
            obtain ⟨lQ, mQ⟩ := hQr.out.cs
            obtain ⟨lR, mR⟩ := hRr.out.cs
            have ltP := hPr.out.lt
            have ltQ := hQr.out.lt
            have ltR := hRr.out.lt
            obtain ⟨vv, hvv⟩ : ∃ vv, q + 1 = vv := ⟨_, rfl⟩
            rw [hvv] at hv4 hcell hX20 hP20 hQ20 hR20 HB20 hV20
            have hv1 : 1 ≤ vv := by omega
            have HVV := Lib.hid hvv
            clear hvv
            cases w1 : lessB x vv f k
            · go_wp2_with fail
              refine (rless_run _ _ _ _ _ (by omega) (by omega)).mono ?_
              rintro e V21 ⟨rfl, hb21⟩
              have hV21 := Lib.hid (hV20.out.below hb21)
              have HB21 := Lib.hid (bstep HB20.out hb21)
              have hP21 := Lib.hid (hP20.out.below hb21)
              obtain ⟨lP21, mP21⟩ := hP21.out.cs
              have hQ21 := Lib.hid (hQ20.out.below hb21)
              obtain ⟨lQ21, mQ21⟩ := hQ21.out.cs
              have hR21 := Lib.hid (hR20.out.below hb21)
              obtain ⟨lR21, mR21⟩ := hR21.out.cs
              have hX21 := Lib.hid (hX20.out.below hb21)
              obtain ⟨lX21, mX21⟩ := hX21.out.cs
              clear hb21
              rw [w1]
              go_wp2_with fail
              go_roundw
              case rel => exact ⟨q + 1, b, by omega, by go_num, rfl, hall, hP21, hQ21, hR21, hV21, HB21⟩
              case measure => simp [intOf]; omega
            · cases w2 : decide (vv = k)
              · cases w3 : abB c i x vv
                · cases w4 : abB D J x vv
                  · have hnp : prepB c i D J f k = false := by
                      cases hpp : prepB c i D J f k
                      · rfl
                      · have := prep_math hc0 hf0 hx0 hv1 hi0 hk0 hq7.out hpp w1 (by simpa using w2) w3
                        rw [this] at w4
                        cases w4
                    have HNP := Lib.hid hnp
                    clear hnp
                    go_wp2_with fail
                    refine (rless_run _ _ _ _ _ (by omega) (by omega)).mono ?_
                    rintro e V21 ⟨rfl, hb21⟩
                    have hV21 := Lib.hid (hV20.out.below hb21)
                    have HB21 := Lib.hid (bstep HB20.out hb21)
                    have hP21 := Lib.hid (hP20.out.below hb21)
                    obtain ⟨lP21, mP21⟩ := hP21.out.cs
                    have hQ21 := Lib.hid (hQ20.out.below hb21)
                    obtain ⟨lQ21, mQ21⟩ := hQ21.out.cs
                    have hR21 := Lib.hid (hR20.out.below hb21)
                    obtain ⟨lR21, mR21⟩ := hR21.out.cs
                    have hX21 := Lib.hid (hX20.out.below hb21)
                    obtain ⟨lX21, mX21⟩ := hX21.out.cs
                    clear hb21
                    rw [w1]
                    go_wp2_with fail
                    refine (rcompat_run _ _ _ _ _ (by omega) (by omega)).mono ?_
                    rintro e V22 ⟨rfl, hb22⟩
                    have hV22 := Lib.hid (hV21.out.below hb22)
                    have HB22 := Lib.hid (bstep HB21.out hb22)
                    have hP22 := Lib.hid (hP21.out.below hb22)
                    obtain ⟨lP22, mP22⟩ := hP22.out.cs
                    have hQ22 := Lib.hid (hQ21.out.below hb22)
                    obtain ⟨lQ22, mQ22⟩ := hQ22.out.cs
                    have hR22 := Lib.hid (hR21.out.below hb22)
                    obtain ⟨lR22, mR22⟩ := hR22.out.cs
                    have hX22 := Lib.hid (hX21.out.below hb22)
                    obtain ⟨lX22, mX22⟩ := hX22.out.cs
                    clear hb22
                    rw [w2]
                    go_wp2_with fail
                    refine (aborts_run _ _ _ _ _ (by omega) (by omega)).mono ?_
                    rintro e V23 ⟨rfl, hb23⟩
                    have hV23 := Lib.hid (hV22.out.below hb23)
                    have HB23 := Lib.hid (bstep HB22.out hb23)
                    have hP23 := Lib.hid (hP22.out.below hb23)
                    obtain ⟨lP23, mP23⟩ := hP23.out.cs
                    have hQ23 := Lib.hid (hQ22.out.below hb23)
                    obtain ⟨lQ23, mQ23⟩ := hQ23.out.cs
                    have hR23 := Lib.hid (hR22.out.below hb23)
                    obtain ⟨lR23, mR23⟩ := hR23.out.cs
                    have hX23 := Lib.hid (hX22.out.below hb23)
                    obtain ⟨lX23, mX23⟩ := hX23.out.cs
                    clear hb23
                    rw [w3]
                    go_wp2_with fail
                    refine (aborts_run _ _ _ _ _ (by omega) (by omega)).mono ?_
                    rintro e V24 ⟨rfl, hb24⟩
                    have hV24 := Lib.hid (hV23.out.below hb24)
                    have HB24 := Lib.hid (bstep HB23.out hb24)
                    have hP24 := Lib.hid (hP23.out.below hb24)
                    obtain ⟨lP24, mP24⟩ := hP24.out.cs
                    have hQ24 := Lib.hid (hQ23.out.below hb24)
                    obtain ⟨lQ24, mQ24⟩ := hQ24.out.cs
                    have hR24 := Lib.hid (hR23.out.below hb24)
                    obtain ⟨lR24, mR24⟩ := hR24.out.cs
                    have hX24 := Lib.hid (hX23.out.below hb24)
                    obtain ⟨lX24, mX24⟩ := hX24.out.cs
                    clear hb24
                    rw [w4]
                    go_wp2_with fail
                    go_roundw
                    case rel => exact ⟨q + 1, false, by omega, by go_num, rfl, Lib.hid (fun h => by rw [HNP.out] at h; cases h), hP24, hQ24, hR24, hV24, HB24⟩
                    case measure => simp [intOf]; omega
                  · go_wp2_with fail
                    refine (rless_run _ _ _ _ _ (by omega) (by omega)).mono ?_
                    rintro e V21 ⟨rfl, hb21⟩
                    have hV21 := Lib.hid (hV20.out.below hb21)
                    have HB21 := Lib.hid (bstep HB20.out hb21)
                    have hP21 := Lib.hid (hP20.out.below hb21)
                    obtain ⟨lP21, mP21⟩ := hP21.out.cs
                    have hQ21 := Lib.hid (hQ20.out.below hb21)
                    obtain ⟨lQ21, mQ21⟩ := hQ21.out.cs
                    have hR21 := Lib.hid (hR20.out.below hb21)
                    obtain ⟨lR21, mR21⟩ := hR21.out.cs
                    have hX21 := Lib.hid (hX20.out.below hb21)
                    obtain ⟨lX21, mX21⟩ := hX21.out.cs
                    clear hb21
                    rw [w1]
                    go_wp2_with fail
                    refine (rcompat_run _ _ _ _ _ (by omega) (by omega)).mono ?_
                    rintro e V22 ⟨rfl, hb22⟩
                    have hV22 := Lib.hid (hV21.out.below hb22)
                    have HB22 := Lib.hid (bstep HB21.out hb22)
                    have hP22 := Lib.hid (hP21.out.below hb22)
                    obtain ⟨lP22, mP22⟩ := hP22.out.cs
                    have hQ22 := Lib.hid (hQ21.out.below hb22)
                    obtain ⟨lQ22, mQ22⟩ := hQ22.out.cs
                    have hR22 := Lib.hid (hR21.out.below hb22)
                    obtain ⟨lR22, mR22⟩ := hR22.out.cs
                    have hX22 := Lib.hid (hX21.out.below hb22)
                    obtain ⟨lX22, mX22⟩ := hX22.out.cs
                    clear hb22
                    rw [w2]
                    go_wp2_with fail
                    refine (aborts_run _ _ _ _ _ (by omega) (by omega)).mono ?_
                    rintro e V23 ⟨rfl, hb23⟩
                    have hV23 := Lib.hid (hV22.out.below hb23)
                    have HB23 := Lib.hid (bstep HB22.out hb23)
                    have hP23 := Lib.hid (hP22.out.below hb23)
                    obtain ⟨lP23, mP23⟩ := hP23.out.cs
                    have hQ23 := Lib.hid (hQ22.out.below hb23)
                    obtain ⟨lQ23, mQ23⟩ := hQ23.out.cs
                    have hR23 := Lib.hid (hR22.out.below hb23)
                    obtain ⟨lR23, mR23⟩ := hR23.out.cs
                    have hX23 := Lib.hid (hX22.out.below hb23)
                    obtain ⟨lX23, mX23⟩ := hX23.out.cs
                    clear hb23
                    rw [w3]
                    go_wp2_with fail
                    refine (aborts_run _ _ _ _ _ (by omega) (by omega)).mono ?_
                    rintro e V24 ⟨rfl, hb24⟩
                    have hV24 := Lib.hid (hV23.out.below hb24)
                    have HB24 := Lib.hid (bstep HB23.out hb24)
                    have hP24 := Lib.hid (hP23.out.below hb24)
                    obtain ⟨lP24, mP24⟩ := hP24.out.cs
                    have hQ24 := Lib.hid (hQ23.out.below hb24)
                    obtain ⟨lQ24, mQ24⟩ := hQ24.out.cs
                    have hR24 := Lib.hid (hR23.out.below hb24)
                    obtain ⟨lR24, mR24⟩ := hR24.out.cs
                    have hX24 := Lib.hid (hX23.out.below hb24)
                    obtain ⟨lX24, mX24⟩ := hX24.out.cs
                    clear hb24
                    rw [w4]
                    go_wp2_with fail
                    go_roundw
                    case rel => exact ⟨q + 1, b, by omega, by go_num, rfl, hall, hP24, hQ24, hR24, hV24, HB24⟩
                    case measure => simp [intOf]; omega
                · go_wp2_with fail
                  refine (rless_run _ _ _ _ _ (by omega) (by omega)).mono ?_
                  rintro e V21 ⟨rfl, hb21⟩
                  have hV21 := Lib.hid (hV20.out.below hb21)
                  have HB21 := Lib.hid (bstep HB20.out hb21)
                  have hP21 := Lib.hid (hP20.out.below hb21)
                  obtain ⟨lP21, mP21⟩ := hP21.out.cs
                  have hQ21 := Lib.hid (hQ20.out.below hb21)
                  obtain ⟨lQ21, mQ21⟩ := hQ21.out.cs
                  have hR21 := Lib.hid (hR20.out.below hb21)
                  obtain ⟨lR21, mR21⟩ := hR21.out.cs
                  have hX21 := Lib.hid (hX20.out.below hb21)
                  obtain ⟨lX21, mX21⟩ := hX21.out.cs
                  clear hb21
                  rw [w1]
                  go_wp2_with fail
                  refine (rcompat_run _ _ _ _ _ (by omega) (by omega)).mono ?_
                  rintro e V22 ⟨rfl, hb22⟩
                  have hV22 := Lib.hid (hV21.out.below hb22)
                  have HB22 := Lib.hid (bstep HB21.out hb22)
                  have hP22 := Lib.hid (hP21.out.below hb22)
                  obtain ⟨lP22, mP22⟩ := hP22.out.cs
                  have hQ22 := Lib.hid (hQ21.out.below hb22)
                  obtain ⟨lQ22, mQ22⟩ := hQ22.out.cs
                  have hR22 := Lib.hid (hR21.out.below hb22)
                  obtain ⟨lR22, mR22⟩ := hR22.out.cs
                  have hX22 := Lib.hid (hX21.out.below hb22)
                  obtain ⟨lX22, mX22⟩ := hX22.out.cs
                  clear hb22
                  rw [w2]
                  go_wp2_with fail
                  refine (aborts_run _ _ _ _ _ (by omega) (by omega)).mono ?_
                  rintro e V23 ⟨rfl, hb23⟩
                  have hV23 := Lib.hid (hV22.out.below hb23)
                  have HB23 := Lib.hid (bstep HB22.out hb23)
                  have hP23 := Lib.hid (hP22.out.below hb23)
                  obtain ⟨lP23, mP23⟩ := hP23.out.cs
                  have hQ23 := Lib.hid (hQ22.out.below hb23)
                  obtain ⟨lQ23, mQ23⟩ := hQ23.out.cs
                  have hR23 := Lib.hid (hR22.out.below hb23)
                  obtain ⟨lR23, mR23⟩ := hR23.out.cs
                  have hX23 := Lib.hid (hX22.out.below hb23)
                  obtain ⟨lX23, mX23⟩ := hX23.out.cs
                  clear hb23
                  rw [w3]
                  go_wp2_with fail
                  go_roundw
                  case rel => exact ⟨q + 1, b, by omega, by go_num, rfl, hall, hP23, hQ23, hR23, hV23, HB23⟩
                  case measure => simp [intOf]; omega
              · go_wp2_with fail
                refine (rless_run _ _ _ _ _ (by omega) (by omega)).mono ?_
                rintro e V21 ⟨rfl, hb21⟩
                have hV21 := Lib.hid (hV20.out.below hb21)
                have HB21 := Lib.hid (bstep HB20.out hb21)
                have hP21 := Lib.hid (hP20.out.below hb21)
                obtain ⟨lP21, mP21⟩ := hP21.out.cs
                have hQ21 := Lib.hid (hQ20.out.below hb21)
                obtain ⟨lQ21, mQ21⟩ := hQ21.out.cs
                have hR21 := Lib.hid (hR20.out.below hb21)
                obtain ⟨lR21, mR21⟩ := hR21.out.cs
                have hX21 := Lib.hid (hX20.out.below hb21)
                obtain ⟨lX21, mX21⟩ := hX21.out.cs
                clear hb21
                rw [w1]
                go_wp2_with fail
                refine (rcompat_run _ _ _ _ _ (by omega) (by omega)).mono ?_
                rintro e V22 ⟨rfl, hb22⟩
                have hV22 := Lib.hid (hV21.out.below hb22)
                have HB22 := Lib.hid (bstep HB21.out hb22)
                have hP22 := Lib.hid (hP21.out.below hb22)
                obtain ⟨lP22, mP22⟩ := hP22.out.cs
                have hQ22 := Lib.hid (hQ21.out.below hb22)
                obtain ⟨lQ22, mQ22⟩ := hQ22.out.cs
                have hR22 := Lib.hid (hR21.out.below hb22)
                obtain ⟨lR22, mR22⟩ := hR22.out.cs
                have hX22 := Lib.hid (hX21.out.below hb22)
                obtain ⟨lX22, mX22⟩ := hX22.out.cs
                clear hb22
                rw [w2]
                go_wp2_with fail
                go_roundw
                case rel => exact ⟨q + 1, b, by omega, by go_num, rfl, hall, hP22, hQ22, hR22, hV22, HB22⟩
                case measure => simp [intOf]; omega
          · go_wp2_with fail
            go_roundw
            case rel => exact ⟨x + 1, b, by go_num, by omega, by omega, rfl, hall, hPr, hQr, hRr, hBr⟩
            case measure => simp [intOf]; omega
      · obtain ⟨lP, mP⟩ := hPr0.out.cs
        obtain ⟨lQ, mQ⟩ := hQr0.out.cs
        obtain ⟨lR, mR⟩ := hRr0.out.cs
        cases hp : prepB c i D J f k
        · go_wp2_with fail
          refine (prepares_run _ _ _ _ _ _ _ (by omega) (by omega) (by omega)).mono ?_
          rintro e Z1 ⟨rfl, hb1⟩
          rw [hp]
          go_wp2_with fail
          refine (sane23 _).mono ?_
          rintro e Z2 ⟨rfl, hb2⟩
          go_wp2_with fail
          go_ret
          exact ⟨rfl, bstep (bstep hBr0.out hb1) hb2⟩
        · obtain rfl : b = true := hall0.out hp
          go_wp2_with fail
          refine (prepares_run _ _ _ _ _ _ _ (by omega) (by omega) (by omega)).mono ?_
          rintro e Z1 ⟨rfl, hb1⟩
          rw [hp]
          go_wp2_with fail
          refine (sane23 _).mono ?_
          rintro e Z2 ⟨rfl, hb2⟩
          go_wp2_with fail
          go_ret
          exact ⟨rfl, bstep (bstep hBr0.out hb1) hb2⟩
  · cases he : decide (i = j)
    · go_wp2_with fail
      refine (compat_run _ _ _ _ _ (by omega) (by omega)).mono ?_
      rintro e W6 ⟨rfl, hb6⟩
      have HB6 := Lib.hid (bstep HB5.out hb6)
      have hP6 := Lib.hid (hP5.out.below hb6)
      obtain ⟨lP6, mP6⟩ := hP6.out.cs
      have hQ6 := Lib.hid (hQ5.out.below hb6)
      obtain ⟨lQ6, mQ6⟩ := hQ6.out.cs
      have hR6 := Lib.hid (hR5.out.below hb6)
      obtain ⟨lR6, mR6⟩ := hR6.out.cs
      clear hb6
      rw [he]
      go_wp2_with fail
      have hne : i ≠ j := by simpa using he
      obtain ⟨D, J, hJ4, hq7, hP7, hQ7, hR7, HB7⟩ : ∃ (D : Int) (J : Nat), J ≤ 4 ∧ Hid (QOk c i D J) ∧ Hid (BalAt W6 g c i) ∧ Hid (BalAt W6 (g + 1) D J) ∧ Hid (BalAt W6 (g + 1 + 1) f k) ∧ Hid (Below w.heap.size w W6) := ⟨d, j, by omega, Lib.hid (.inr ⟨hd0, hj0, hl, hne⟩), hP6, hQ6, hR6, HB6⟩
      clear lP6 mP6 lQ6 mQ6 lR6 mR6
      go_loopw [7, 8] (fun u t wr => ∃ (x : Int) (b : Bool), t = .int .i64 x ∧ 1 ≤ x ∧ x ≤ 8 ∧ u = .bool b ∧ Hid (prepB c i D J f k = true → b = true) ∧ Hid (BalAt wr g c i) ∧ Hid (BalAt wr (g + 1) D J) ∧ Hid (BalAt wr (g + 1 + 1) f k) ∧ Hid (Below w.heap.size w wr)) (fun _ t _ => (8 - intOf t).toNat)
      case atStart => exact ⟨1, true, rfl, by omega, by omega, rfl, Lib.hid (fun _ => rfl), hP7, hQ7, hR7, HB7⟩
      case round =>
        obtain ⟨x, b, rfl, hx0, hx1, rfl, hall0, hPr0, hQr0, hRr0, hBr0⟩ := hrel
        by_cases hlt : x ≤ 7
        · go_wp2_with fail
          have hV0 := ValsAt.new wr
          have hPr1 := Lib.hid (hPr0.out.alloc (.cells #[.string ⟨#[97]⟩, .string ⟨#[98]⟩, .string ⟨#[99]⟩, .string ⟨#[97, 97]⟩] 9))
          have hQr1 := Lib.hid (hQr0.out.alloc (.cells #[.string ⟨#[97]⟩, .string ⟨#[98]⟩, .string ⟨#[99]⟩, .string ⟨#[97, 97]⟩] 9))
          have hRr1 := Lib.hid (hRr0.out.alloc (.cells #[.string ⟨#[97]⟩, .string ⟨#[98]⟩, .string ⟨#[99]⟩, .string ⟨#[97, 97]⟩] 9))
          have hBr1 := Lib.hid (balloc hBr0.out (.cells #[.string ⟨#[97]⟩, .string ⟨#[98]⟩, .string ⟨#[99]⟩, .string ⟨#[97, 97]⟩] 9))
          generalize wr.alloc (.cells #[.string ⟨#[97]⟩, .string ⟨#[98]⟩, .string ⟨#[99]⟩, .string ⟨#[97, 97]⟩] 9) = wo at *
          generalize wr.heap.size = h at *
          have hV1 := Lib.hid hV0
          clear hV0
          go_loopw [7, 36] (fun u t wr => ∃ (q : Nat) (b : Bool), q ≤ 4 ∧ t = .int .i64 q ∧ u = .bool b ∧ Hid (prepB c i D J f k = true → b = true) ∧ Hid (BalAt wr g c i) ∧ Hid (BalAt wr (g + 1) D J) ∧ Hid (BalAt wr (g + 1 + 1) f k) ∧ Hid (ValsAt wr h) ∧ Hid (Below w.heap.size w wr)) (fun _ t _ => 4 - (intOf t).toNat)
          case atStart => exact ⟨0, b, by omega, rfl, rfl, hall0, hPr1, hQr1, hRr1, hV1, hBr1⟩
          case round =>
            clear hall0 hPr0 hQr0 hRr0 hBr0 hPr1 hQr1 hRr1 hBr1 hV1
            obtain ⟨q, b, hq5, rfl, rfl, hall, hPr, hQr, hRr, hVr, hBr⟩ := hrel
            by_cases hq4 : q < 4
            · have hv4 : q + 1 ≤ 4 := by omega
              have hcell := hVr.out.at_ hq4
              have hX20 := Lib.hid (BalAt.new wr x (q + 1))
              have hV20 := Lib.hid (hVr.out.below (balloc (bref _) (.cells #[.int .i64 x, .string (valOf (q + 1))] 52)))
              have hP20 := Lib.hid (hPr.out.alloc (.cells #[.int .i64 x, .string (valOf (q + 1))] 52))
              have hQ20 := Lib.hid (hQr.out.alloc (.cells #[.int .i64 x, .string (valOf (q + 1))] 52))
              have hR20 := Lib.hid (hRr.out.alloc (.cells #[.int .i64 x, .string (valOf (q + 1))] 52))
              have HB20 := Lib.hid (balloc hBr.out (.cells #[.int .i64 x, .string (valOf (q + 1))] 52))
              obtain ⟨lP, mP⟩ := hPr.out.cs
              obtain ⟨lQ, mQ⟩ := hQr.out.cs
              obtain ⟨lR, mR⟩ := hRr.out.cs
              have ltP := hPr.out.lt
              have ltQ := hQr.out.lt
              have ltR := hRr.out.lt
              obtain ⟨vv, hvv⟩ : ∃ vv, q + 1 = vv := ⟨_, rfl⟩
              rw [hvv] at hv4 hcell hX20 hP20 hQ20 hR20 HB20 hV20
              have hv1 : 1 ≤ vv := by omega
              have HVV := Lib.hid hvv
              clear hvv
              cases w1 : lessB x vv f k
              · go_wp2_with fail
                refine (rless_run _ _ _ _ _ (by omega) (by omega)).mono ?_
                rintro e V21 ⟨rfl, hb21⟩
                have hV21 := Lib.hid (hV20.out.below hb21)
                have HB21 := Lib.hid (bstep HB20.out hb21)
                have hP21 := Lib.hid (hP20.out.below hb21)
                obtain ⟨lP21, mP21⟩ := hP21.out.cs
                have hQ21 := Lib.hid (hQ20.out.below hb21)
                obtain ⟨lQ21, mQ21⟩ := hQ21.out.cs
                have hR21 := Lib.hid (hR20.out.below hb21)
                obtain ⟨lR21, mR21⟩ := hR21.out.cs
                have hX21 := Lib.hid (hX20.out.below hb21)
                obtain ⟨lX21, mX21⟩ := hX21.out.cs
                clear hb21
                rw [w1]
                go_wp2_with fail
                go_roundw
                case rel => exact ⟨q + 1, b, by omega, by go_num, rfl, hall, hP21, hQ21, hR21, hV21, HB21⟩
                case measure => simp [intOf]; omega
              · cases w2 : decide (vv = k)
                · cases w3 : abB c i x vv
                  · cases w4 : abB D J x vv
                    · have hnp : prepB c i D J f k = false := by
                        cases hpp : prepB c i D J f k
                        · rfl
                        · have := prep_math hc0 hf0 hx0 hv1 hi0 hk0 hq7.out hpp w1 (by simpa using w2) w3
                          rw [this] at w4
                          cases w4
                      have HNP := Lib.hid hnp
                      clear hnp
                      go_wp2_with fail
                      refine (rless_run _ _ _ _ _ (by omega) (by omega)).mono ?_
                      rintro e V21 ⟨rfl, hb21⟩
                      have hV21 := Lib.hid (hV20.out.below hb21)
                      have HB21 := Lib.hid (bstep HB20.out hb21)
                      have hP21 := Lib.hid (hP20.out.below hb21)
                      obtain ⟨lP21, mP21⟩ := hP21.out.cs
                      have hQ21 := Lib.hid (hQ20.out.below hb21)
                      obtain ⟨lQ21, mQ21⟩ := hQ21.out.cs
                      have hR21 := Lib.hid (hR20.out.below hb21)
                      obtain ⟨lR21, mR21⟩ := hR21.out.cs
                      have hX21 := Lib.hid (hX20.out.below hb21)
                      obtain ⟨lX21, mX21⟩ := hX21.out.cs
                      clear hb21
                      rw [w1]
                      go_wp2_with fail
                      refine (rcompat_run _ _ _ _ _ (by omega) (by omega)).mono ?_
                      rintro e V22 ⟨rfl, hb22⟩
                      have hV22 := Lib.hid (hV21.out.below hb22)
                      have HB22 := Lib.hid (bstep HB21.out hb22)
                      have hP22 := Lib.hid (hP21.out.below hb22)
                      obtain ⟨lP22, mP22⟩ := hP22.out.cs
                      have hQ22 := Lib.hid (hQ21.out.below hb22)
                      obtain ⟨lQ22, mQ22⟩ := hQ22.out.cs
                      have hR22 := Lib.hid (hR21.out.below hb22)
                      obtain ⟨lR22, mR22⟩ := hR22.out.cs
                      have hX22 := Lib.hid (hX21.out.below hb22)
                      obtain ⟨lX22, mX22⟩ := hX22.out.cs
                      clear hb22
                      rw [w2]
                      go_wp2_with fail
                      refine (aborts_run _ _ _ _ _ (by omega) (by omega)).mono ?_
                      rintro e V23 ⟨rfl, hb23⟩
                      have hV23 := Lib.hid (hV22.out.below hb23)
                      have HB23 := Lib.hid (bstep HB22.out hb23)
                      have hP23 := Lib.hid (hP22.out.below hb23)
                      obtain ⟨lP23, mP23⟩ := hP23.out.cs
                      have hQ23 := Lib.hid (hQ22.out.below hb23)
                      obtain ⟨lQ23, mQ23⟩ := hQ23.out.cs
                      have hR23 := Lib.hid (hR22.out.below hb23)
                      obtain ⟨lR23, mR23⟩ := hR23.out.cs
                      have hX23 := Lib.hid (hX22.out.below hb23)
                      obtain ⟨lX23, mX23⟩ := hX23.out.cs
                      clear hb23
                      rw [w3]
                      go_wp2_with fail
                      refine (aborts_run _ _ _ _ _ (by omega) (by omega)).mono ?_
                      rintro e V24 ⟨rfl, hb24⟩
                      have hV24 := Lib.hid (hV23.out.below hb24)
                      have HB24 := Lib.hid (bstep HB23.out hb24)
                      have hP24 := Lib.hid (hP23.out.below hb24)
                      obtain ⟨lP24, mP24⟩ := hP24.out.cs
                      have hQ24 := Lib.hid (hQ23.out.below hb24)
                      obtain ⟨lQ24, mQ24⟩ := hQ24.out.cs
                      have hR24 := Lib.hid (hR23.out.below hb24)
                      obtain ⟨lR24, mR24⟩ := hR24.out.cs
                      have hX24 := Lib.hid (hX23.out.below hb24)
                      obtain ⟨lX24, mX24⟩ := hX24.out.cs
                      clear hb24
                      rw [w4]
                      go_wp2_with fail
                      go_roundw
                      case rel => exact ⟨q + 1, false, by omega, by go_num, rfl, Lib.hid (fun h => by rw [HNP.out] at h; cases h), hP24, hQ24, hR24, hV24, HB24⟩
                      case measure => simp [intOf]; omega
                    · go_wp2_with fail
                      refine (rless_run _ _ _ _ _ (by omega) (by omega)).mono ?_
                      rintro e V21 ⟨rfl, hb21⟩
                      have hV21 := Lib.hid (hV20.out.below hb21)
                      have HB21 := Lib.hid (bstep HB20.out hb21)
                      have hP21 := Lib.hid (hP20.out.below hb21)
                      obtain ⟨lP21, mP21⟩ := hP21.out.cs
                      have hQ21 := Lib.hid (hQ20.out.below hb21)
                      obtain ⟨lQ21, mQ21⟩ := hQ21.out.cs
                      have hR21 := Lib.hid (hR20.out.below hb21)
                      obtain ⟨lR21, mR21⟩ := hR21.out.cs
                      have hX21 := Lib.hid (hX20.out.below hb21)
                      obtain ⟨lX21, mX21⟩ := hX21.out.cs
                      clear hb21
                      rw [w1]
                      go_wp2_with fail
                      refine (rcompat_run _ _ _ _ _ (by omega) (by omega)).mono ?_
                      rintro e V22 ⟨rfl, hb22⟩
                      have hV22 := Lib.hid (hV21.out.below hb22)
                      have HB22 := Lib.hid (bstep HB21.out hb22)
                      have hP22 := Lib.hid (hP21.out.below hb22)
                      obtain ⟨lP22, mP22⟩ := hP22.out.cs
                      have hQ22 := Lib.hid (hQ21.out.below hb22)
                      obtain ⟨lQ22, mQ22⟩ := hQ22.out.cs
                      have hR22 := Lib.hid (hR21.out.below hb22)
                      obtain ⟨lR22, mR22⟩ := hR22.out.cs
                      have hX22 := Lib.hid (hX21.out.below hb22)
                      obtain ⟨lX22, mX22⟩ := hX22.out.cs
                      clear hb22
                      rw [w2]
                      go_wp2_with fail
                      refine (aborts_run _ _ _ _ _ (by omega) (by omega)).mono ?_
                      rintro e V23 ⟨rfl, hb23⟩
                      have hV23 := Lib.hid (hV22.out.below hb23)
                      have HB23 := Lib.hid (bstep HB22.out hb23)
                      have hP23 := Lib.hid (hP22.out.below hb23)
                      obtain ⟨lP23, mP23⟩ := hP23.out.cs
                      have hQ23 := Lib.hid (hQ22.out.below hb23)
                      obtain ⟨lQ23, mQ23⟩ := hQ23.out.cs
                      have hR23 := Lib.hid (hR22.out.below hb23)
                      obtain ⟨lR23, mR23⟩ := hR23.out.cs
                      have hX23 := Lib.hid (hX22.out.below hb23)
                      obtain ⟨lX23, mX23⟩ := hX23.out.cs
                      clear hb23
                      rw [w3]
                      go_wp2_with fail
                      refine (aborts_run _ _ _ _ _ (by omega) (by omega)).mono ?_
                      rintro e V24 ⟨rfl, hb24⟩
                      have hV24 := Lib.hid (hV23.out.below hb24)
                      have HB24 := Lib.hid (bstep HB23.out hb24)
                      have hP24 := Lib.hid (hP23.out.below hb24)
                      obtain ⟨lP24, mP24⟩ := hP24.out.cs
                      have hQ24 := Lib.hid (hQ23.out.below hb24)
                      obtain ⟨lQ24, mQ24⟩ := hQ24.out.cs
                      have hR24 := Lib.hid (hR23.out.below hb24)
                      obtain ⟨lR24, mR24⟩ := hR24.out.cs
                      have hX24 := Lib.hid (hX23.out.below hb24)
                      obtain ⟨lX24, mX24⟩ := hX24.out.cs
                      clear hb24
                      rw [w4]
                      go_wp2_with fail
                      go_roundw
                      case rel => exact ⟨q + 1, b, by omega, by go_num, rfl, hall, hP24, hQ24, hR24, hV24, HB24⟩
                      case measure => simp [intOf]; omega
                  · go_wp2_with fail
                    refine (rless_run _ _ _ _ _ (by omega) (by omega)).mono ?_
                    rintro e V21 ⟨rfl, hb21⟩
                    have hV21 := Lib.hid (hV20.out.below hb21)
                    have HB21 := Lib.hid (bstep HB20.out hb21)
                    have hP21 := Lib.hid (hP20.out.below hb21)
                    obtain ⟨lP21, mP21⟩ := hP21.out.cs
                    have hQ21 := Lib.hid (hQ20.out.below hb21)
                    obtain ⟨lQ21, mQ21⟩ := hQ21.out.cs
                    have hR21 := Lib.hid (hR20.out.below hb21)
                    obtain ⟨lR21, mR21⟩ := hR21.out.cs
                    have hX21 := Lib.hid (hX20.out.below hb21)
                    obtain ⟨lX21, mX21⟩ := hX21.out.cs
                    clear hb21
                    rw [w1]
                    go_wp2_with fail
                    refine (rcompat_run _ _ _ _ _ (by omega) (by omega)).mono ?_
                    rintro e V22 ⟨rfl, hb22⟩
                    have hV22 := Lib.hid (hV21.out.below hb22)
                    have HB22 := Lib.hid (bstep HB21.out hb22)
                    have hP22 := Lib.hid (hP21.out.below hb22)
                    obtain ⟨lP22, mP22⟩ := hP22.out.cs
                    have hQ22 := Lib.hid (hQ21.out.below hb22)
                    obtain ⟨lQ22, mQ22⟩ := hQ22.out.cs
                    have hR22 := Lib.hid (hR21.out.below hb22)
                    obtain ⟨lR22, mR22⟩ := hR22.out.cs
                    have hX22 := Lib.hid (hX21.out.below hb22)
                    obtain ⟨lX22, mX22⟩ := hX22.out.cs
                    clear hb22
                    rw [w2]
                    go_wp2_with fail
                    refine (aborts_run _ _ _ _ _ (by omega) (by omega)).mono ?_
                    rintro e V23 ⟨rfl, hb23⟩
                    have hV23 := Lib.hid (hV22.out.below hb23)
                    have HB23 := Lib.hid (bstep HB22.out hb23)
                    have hP23 := Lib.hid (hP22.out.below hb23)
                    obtain ⟨lP23, mP23⟩ := hP23.out.cs
                    have hQ23 := Lib.hid (hQ22.out.below hb23)
                    obtain ⟨lQ23, mQ23⟩ := hQ23.out.cs
                    have hR23 := Lib.hid (hR22.out.below hb23)
                    obtain ⟨lR23, mR23⟩ := hR23.out.cs
                    have hX23 := Lib.hid (hX22.out.below hb23)
                    obtain ⟨lX23, mX23⟩ := hX23.out.cs
                    clear hb23
                    rw [w3]
                    go_wp2_with fail
                    go_roundw
                    case rel => exact ⟨q + 1, b, by omega, by go_num, rfl, hall, hP23, hQ23, hR23, hV23, HB23⟩
                    case measure => simp [intOf]; omega
                · go_wp2_with fail
                  refine (rless_run _ _ _ _ _ (by omega) (by omega)).mono ?_
                  rintro e V21 ⟨rfl, hb21⟩
                  have hV21 := Lib.hid (hV20.out.below hb21)
                  have HB21 := Lib.hid (bstep HB20.out hb21)
                  have hP21 := Lib.hid (hP20.out.below hb21)
                  obtain ⟨lP21, mP21⟩ := hP21.out.cs
                  have hQ21 := Lib.hid (hQ20.out.below hb21)
                  obtain ⟨lQ21, mQ21⟩ := hQ21.out.cs
                  have hR21 := Lib.hid (hR20.out.below hb21)
                  obtain ⟨lR21, mR21⟩ := hR21.out.cs
                  have hX21 := Lib.hid (hX20.out.below hb21)
                  obtain ⟨lX21, mX21⟩ := hX21.out.cs
                  clear hb21
                  rw [w1]
                  go_wp2_with fail
                  refine (rcompat_run _ _ _ _ _ (by omega) (by omega)).mono ?_
                  rintro e V22 ⟨rfl, hb22⟩
                  have hV22 := Lib.hid (hV21.out.below hb22)
                  have HB22 := Lib.hid (bstep HB21.out hb22)
                  have hP22 := Lib.hid (hP21.out.below hb22)
                  obtain ⟨lP22, mP22⟩ := hP22.out.cs
                  have hQ22 := Lib.hid (hQ21.out.below hb22)
                  obtain ⟨lQ22, mQ22⟩ := hQ22.out.cs
                  have hR22 := Lib.hid (hR21.out.below hb22)
                  obtain ⟨lR22, mR22⟩ := hR22.out.cs
                  have hX22 := Lib.hid (hX21.out.below hb22)
                  obtain ⟨lX22, mX22⟩ := hX22.out.cs
                  clear hb22
                  rw [w2]
                  go_wp2_with fail
                  go_roundw
                  case rel => exact ⟨q + 1, b, by omega, by go_num, rfl, hall, hP22, hQ22, hR22, hV22, HB22⟩
                  case measure => simp [intOf]; omega
            · go_wp2_with fail
              go_roundw
              case rel => exact ⟨x + 1, b, by go_num, by omega, by omega, rfl, hall, hPr, hQr, hRr, hBr⟩
              case measure => simp [intOf]; omega
        · obtain ⟨lP, mP⟩ := hPr0.out.cs
          obtain ⟨lQ, mQ⟩ := hQr0.out.cs
          obtain ⟨lR, mR⟩ := hRr0.out.cs
          cases hp : prepB c i D J f k
          · go_wp2_with fail
            refine (prepares_run _ _ _ _ _ _ _ (by omega) (by omega) (by omega)).mono ?_
            rintro e Z1 ⟨rfl, hb1⟩
            rw [hp]
            go_wp2_with fail
            refine (sane23 _).mono ?_
            rintro e Z2 ⟨rfl, hb2⟩
            go_wp2_with fail
            go_ret
            exact ⟨rfl, bstep (bstep hBr0.out hb1) hb2⟩
          · obtain rfl : b = true := hall0.out hp
            go_wp2_with fail
            refine (prepares_run _ _ _ _ _ _ _ (by omega) (by omega) (by omega)).mono ?_
            rintro e Z1 ⟨rfl, hb1⟩
            rw [hp]
            go_wp2_with fail
            refine (sane23 _).mono ?_
            rintro e Z2 ⟨rfl, hb2⟩
            go_wp2_with fail
            go_ret
            exact ⟨rfl, bstep (bstep hBr0.out hb1) hb2⟩
    · go_wp2_with fail
      refine (compat_run _ _ _ _ _ (by omega) (by omega)).mono ?_
      rintro e W6 ⟨rfl, hb6⟩
      have HB6 := Lib.hid (bstep HB5.out hb6)
      have hP6 := Lib.hid (hP5.out.below hb6)
      obtain ⟨lP6, mP6⟩ := hP6.out.cs
      have hQ6 := Lib.hid (hQ5.out.below hb6)
      obtain ⟨lQ6, mQ6⟩ := hQ6.out.cs
      have hR6 := Lib.hid (hR5.out.below hb6)
      obtain ⟨lR6, mR6⟩ := hR6.out.cs
      clear hb6
      rw [he]
      have fQ0 := hQ6.out.fr 0
      have fQ1 := hQ6.out.fr 1
      go_wp2_with fail
      have hP8 := Lib.hid ((hP6.out.far (p := ⟨g + 1, 0, none⟩) (by simp) (.int .i64 0)).far (p := ⟨g + 1, 1, none⟩) (by simp) (.string ⟨#[]⟩))
      have hQ8 := Lib.hid (hQ6.out.store 0 0)
      have hR8 := Lib.hid ((hR6.out.far (p := ⟨g + 1, 0, none⟩) (by simp) (.int .i64 0)).far (p := ⟨g + 1, 1, none⟩) (by simp) (.string ⟨#[]⟩))
      have HB8 := Lib.hid (bset (bset HB6.out (p := ⟨g + 1, 0, none⟩) (by simp; omega) (.int .i64 0)) (p := ⟨g + 1, 1, none⟩) (by simp; omega) (.string ⟨#[]⟩))
      change Hid (BalAt ((W6.setCell ⟨g + 1, 0, none⟩ (.int .i64 0)).setCell ⟨g + 1, 1, none⟩ (.string ⟨#[]⟩)) (g + 1) 0 0) at hQ8
      generalize (W6.setCell ⟨g + 1, 0, none⟩ (.int .i64 0)).setCell ⟨g + 1, 1, none⟩ (.string ⟨#[]⟩) = W7 at *
      clear lP6 mP6 lQ6 mQ6 lR6 mR6
      obtain ⟨D, J, hJ4, hq7, hP7, hQ7, hR7, HB7⟩ : ∃ (D : Int) (J : Nat), J ≤ 4 ∧ Hid (QOk c i D J) ∧ Hid (BalAt W7 g c i) ∧ Hid (BalAt W7 (g + 1) D J) ∧ Hid (BalAt W7 (g + 1 + 1) f k) ∧ Hid (Below w.heap.size w W7) := ⟨0, 0, by omega, Lib.hid (.inl ⟨rfl, rfl⟩), hP8, hQ8, hR8, HB8⟩
      go_loopw [7, 8] (fun u t wr => ∃ (x : Int) (b : Bool), t = .int .i64 x ∧ 1 ≤ x ∧ x ≤ 8 ∧ u = .bool b ∧ Hid (prepB c i D J f k = true → b = true) ∧ Hid (BalAt wr g c i) ∧ Hid (BalAt wr (g + 1) D J) ∧ Hid (BalAt wr (g + 1 + 1) f k) ∧ Hid (Below w.heap.size w wr)) (fun _ t _ => (8 - intOf t).toNat)
      case atStart => exact ⟨1, true, rfl, by omega, by omega, rfl, Lib.hid (fun _ => rfl), hP7, hQ7, hR7, HB7⟩
      case round =>
        obtain ⟨x, b, rfl, hx0, hx1, rfl, hall0, hPr0, hQr0, hRr0, hBr0⟩ := hrel
        by_cases hlt : x ≤ 7
        · go_wp2_with fail
          have hV0 := ValsAt.new wr
          have hPr1 := Lib.hid (hPr0.out.alloc (.cells #[.string ⟨#[97]⟩, .string ⟨#[98]⟩, .string ⟨#[99]⟩, .string ⟨#[97, 97]⟩] 9))
          have hQr1 := Lib.hid (hQr0.out.alloc (.cells #[.string ⟨#[97]⟩, .string ⟨#[98]⟩, .string ⟨#[99]⟩, .string ⟨#[97, 97]⟩] 9))
          have hRr1 := Lib.hid (hRr0.out.alloc (.cells #[.string ⟨#[97]⟩, .string ⟨#[98]⟩, .string ⟨#[99]⟩, .string ⟨#[97, 97]⟩] 9))
          have hBr1 := Lib.hid (balloc hBr0.out (.cells #[.string ⟨#[97]⟩, .string ⟨#[98]⟩, .string ⟨#[99]⟩, .string ⟨#[97, 97]⟩] 9))
          generalize wr.alloc (.cells #[.string ⟨#[97]⟩, .string ⟨#[98]⟩, .string ⟨#[99]⟩, .string ⟨#[97, 97]⟩] 9) = wo at *
          generalize wr.heap.size = h at *
          have hV1 := Lib.hid hV0
          clear hV0
          go_loopw [7, 36] (fun u t wr => ∃ (q : Nat) (b : Bool), q ≤ 4 ∧ t = .int .i64 q ∧ u = .bool b ∧ Hid (prepB c i D J f k = true → b = true) ∧ Hid (BalAt wr g c i) ∧ Hid (BalAt wr (g + 1) D J) ∧ Hid (BalAt wr (g + 1 + 1) f k) ∧ Hid (ValsAt wr h) ∧ Hid (Below w.heap.size w wr)) (fun _ t _ => 4 - (intOf t).toNat)
          case atStart => exact ⟨0, b, by omega, rfl, rfl, hall0, hPr1, hQr1, hRr1, hV1, hBr1⟩
          case round =>
            clear hall0 hPr0 hQr0 hRr0 hBr0 hPr1 hQr1 hRr1 hBr1 hV1
            obtain ⟨q, b, hq5, rfl, rfl, hall, hPr, hQr, hRr, hVr, hBr⟩ := hrel
            by_cases hq4 : q < 4
            · have hv4 : q + 1 ≤ 4 := by omega
              have hcell := hVr.out.at_ hq4
              have hX20 := Lib.hid (BalAt.new wr x (q + 1))
              have hV20 := Lib.hid (hVr.out.below (balloc (bref _) (.cells #[.int .i64 x, .string (valOf (q + 1))] 52)))
              have hP20 := Lib.hid (hPr.out.alloc (.cells #[.int .i64 x, .string (valOf (q + 1))] 52))
              have hQ20 := Lib.hid (hQr.out.alloc (.cells #[.int .i64 x, .string (valOf (q + 1))] 52))
              have hR20 := Lib.hid (hRr.out.alloc (.cells #[.int .i64 x, .string (valOf (q + 1))] 52))
              have HB20 := Lib.hid (balloc hBr.out (.cells #[.int .i64 x, .string (valOf (q + 1))] 52))
              obtain ⟨lP, mP⟩ := hPr.out.cs
              obtain ⟨lQ, mQ⟩ := hQr.out.cs
              obtain ⟨lR, mR⟩ := hRr.out.cs
              have ltP := hPr.out.lt
              have ltQ := hQr.out.lt
              have ltR := hRr.out.lt
              obtain ⟨vv, hvv⟩ : ∃ vv, q + 1 = vv := ⟨_, rfl⟩
              rw [hvv] at hv4 hcell hX20 hP20 hQ20 hR20 HB20 hV20
              have hv1 : 1 ≤ vv := by omega
              have HVV := Lib.hid hvv
              clear hvv
              cases w1 : lessB x vv f k
              · go_wp2_with fail
                refine (rless_run _ _ _ _ _ (by omega) (by omega)).mono ?_
                rintro e V21 ⟨rfl, hb21⟩
                have hV21 := Lib.hid (hV20.out.below hb21)
                have HB21 := Lib.hid (bstep HB20.out hb21)
                have hP21 := Lib.hid (hP20.out.below hb21)
                obtain ⟨lP21, mP21⟩ := hP21.out.cs
                have hQ21 := Lib.hid (hQ20.out.below hb21)
                obtain ⟨lQ21, mQ21⟩ := hQ21.out.cs
                have hR21 := Lib.hid (hR20.out.below hb21)
                obtain ⟨lR21, mR21⟩ := hR21.out.cs
                have hX21 := Lib.hid (hX20.out.below hb21)
                obtain ⟨lX21, mX21⟩ := hX21.out.cs
                clear hb21
                rw [w1]
                go_wp2_with fail
                go_roundw
                case rel => exact ⟨q + 1, b, by omega, by go_num, rfl, hall, hP21, hQ21, hR21, hV21, HB21⟩
                case measure => simp [intOf]; omega
              · cases w2 : decide (vv = k)
                · cases w3 : abB c i x vv
                  · cases w4 : abB D J x vv
                    · have hnp : prepB c i D J f k = false := by
                        cases hpp : prepB c i D J f k
                        · rfl
                        · have := prep_math hc0 hf0 hx0 hv1 hi0 hk0 hq7.out hpp w1 (by simpa using w2) w3
                          rw [this] at w4
                          cases w4
                      have HNP := Lib.hid hnp
                      clear hnp
                      go_wp2_with fail
                      refine (rless_run _ _ _ _ _ (by omega) (by omega)).mono ?_
                      rintro e V21 ⟨rfl, hb21⟩
                      have hV21 := Lib.hid (hV20.out.below hb21)
                      have HB21 := Lib.hid (bstep HB20.out hb21)
                      have hP21 := Lib.hid (hP20.out.below hb21)
                      obtain ⟨lP21, mP21⟩ := hP21.out.cs
                      have hQ21 := Lib.hid (hQ20.out.below hb21)
                      obtain ⟨lQ21, mQ21⟩ := hQ21.out.cs
                      have hR21 := Lib.hid (hR20.out.below hb21)
                      obtain ⟨lR21, mR21⟩ := hR21.out.cs
                      have hX21 := Lib.hid (hX20.out.below hb21)
                      obtain ⟨lX21, mX21⟩ := hX21.out.cs
                      clear hb21
                      rw [w1]
                      go_wp2_with fail
                      refine (rcompat_run _ _ _ _ _ (by omega) (by omega)).mono ?_
                      rintro e V22 ⟨rfl, hb22⟩
                      have hV22 := Lib.hid (hV21.out.below hb22)
                      have HB22 := Lib.hid (bstep HB21.out hb22)
                      have hP22 := Lib.hid (hP21.out.below hb22)
                      obtain ⟨lP22, mP22⟩ := hP22.out.cs
                      have hQ22 := Lib.hid (hQ21.out.below hb22)
                      obtain ⟨lQ22, mQ22⟩ := hQ22.out.cs
                      have hR22 := Lib.hid (hR21.out.below hb22)
                      obtain ⟨lR22, mR22⟩ := hR22.out.cs
                      have hX22 := Lib.hid (hX21.out.below hb22)
                      obtain ⟨lX22, mX22⟩ := hX22.out.cs
                      clear hb22
                      rw [w2]
                      go_wp2_with fail
                      refine (aborts_run _ _ _ _ _ (by omega) (by omega)).mono ?_
                      rintro e V23 ⟨rfl, hb23⟩
                      have hV23 := Lib.hid (hV22.out.below hb23)
                      have HB23 := Lib.hid (bstep HB22.out hb23)
                      have hP23 := Lib.hid (hP22.out.below hb23)
                      obtain ⟨lP23, mP23⟩ := hP23.out.cs
                      have hQ23 := Lib.hid (hQ22.out.below hb23)
                      obtain ⟨lQ23, mQ23⟩ := hQ23.out.cs
                      have hR23 := Lib.hid (hR22.out.below hb23)
                      obtain ⟨lR23, mR23⟩ := hR23.out.cs
                      have hX23 := Lib.hid (hX22.out.below hb23)
                      obtain ⟨lX23, mX23⟩ := hX23.out.cs
                      clear hb23
                      rw [w3]
                      go_wp2_with fail
                      refine (aborts_run _ _ _ _ _ (by omega) (by omega)).mono ?_
                      rintro e V24 ⟨rfl, hb24⟩
                      have hV24 := Lib.hid (hV23.out.below hb24)
                      have HB24 := Lib.hid (bstep HB23.out hb24)
                      have hP24 := Lib.hid (hP23.out.below hb24)
                      obtain ⟨lP24, mP24⟩ := hP24.out.cs
                      have hQ24 := Lib.hid (hQ23.out.below hb24)
                      obtain ⟨lQ24, mQ24⟩ := hQ24.out.cs
                      have hR24 := Lib.hid (hR23.out.below hb24)
                      obtain ⟨lR24, mR24⟩ := hR24.out.cs
                      have hX24 := Lib.hid (hX23.out.below hb24)
                      obtain ⟨lX24, mX24⟩ := hX24.out.cs
                      clear hb24
                      rw [w4]
                      go_wp2_with fail
                      go_roundw
                      case rel => exact ⟨q + 1, false, by omega, by go_num, rfl, Lib.hid (fun h => by rw [HNP.out] at h; cases h), hP24, hQ24, hR24, hV24, HB24⟩
                      case measure => simp [intOf]; omega
                    · go_wp2_with fail
                      refine (rless_run _ _ _ _ _ (by omega) (by omega)).mono ?_
                      rintro e V21 ⟨rfl, hb21⟩
                      have hV21 := Lib.hid (hV20.out.below hb21)
                      have HB21 := Lib.hid (bstep HB20.out hb21)
                      have hP21 := Lib.hid (hP20.out.below hb21)
                      obtain ⟨lP21, mP21⟩ := hP21.out.cs
                      have hQ21 := Lib.hid (hQ20.out.below hb21)
                      obtain ⟨lQ21, mQ21⟩ := hQ21.out.cs
                      have hR21 := Lib.hid (hR20.out.below hb21)
                      obtain ⟨lR21, mR21⟩ := hR21.out.cs
                      have hX21 := Lib.hid (hX20.out.below hb21)
                      obtain ⟨lX21, mX21⟩ := hX21.out.cs
                      clear hb21
                      rw [w1]
                      go_wp2_with fail
                      refine (rcompat_run _ _ _ _ _ (by omega) (by omega)).mono ?_
                      rintro e V22 ⟨rfl, hb22⟩
                      have hV22 := Lib.hid (hV21.out.below hb22)
                      have HB22 := Lib.hid (bstep HB21.out hb22)
                      have hP22 := Lib.hid (hP21.out.below hb22)
                      obtain ⟨lP22, mP22⟩ := hP22.out.cs
                      have hQ22 := Lib.hid (hQ21.out.below hb22)
                      obtain ⟨lQ22, mQ22⟩ := hQ22.out.cs
                      have hR22 := Lib.hid (hR21.out.below hb22)
                      obtain ⟨lR22, mR22⟩ := hR22.out.cs
                      have hX22 := Lib.hid (hX21.out.below hb22)
                      obtain ⟨lX22, mX22⟩ := hX22.out.cs
                      clear hb22
                      rw [w2]
                      go_wp2_with fail
                      refine (aborts_run _ _ _ _ _ (by omega) (by omega)).mono ?_
                      rintro e V23 ⟨rfl, hb23⟩
                      have hV23 := Lib.hid (hV22.out.below hb23)
                      have HB23 := Lib.hid (bstep HB22.out hb23)
                      have hP23 := Lib.hid (hP22.out.below hb23)
                      obtain ⟨lP23, mP23⟩ := hP23.out.cs
                      have hQ23 := Lib.hid (hQ22.out.below hb23)
                      obtain ⟨lQ23, mQ23⟩ := hQ23.out.cs
                      have hR23 := Lib.hid (hR22.out.below hb23)
                      obtain ⟨lR23, mR23⟩ := hR23.out.cs
                      have hX23 := Lib.hid (hX22.out.below hb23)
                      obtain ⟨lX23, mX23⟩ := hX23.out.cs
                      clear hb23
                      rw [w3]
                      go_wp2_with fail
                      refine (aborts_run _ _ _ _ _ (by omega) (by omega)).mono ?_
                      rintro e V24 ⟨rfl, hb24⟩
                      have hV24 := Lib.hid (hV23.out.below hb24)
                      have HB24 := Lib.hid (bstep HB23.out hb24)
                      have hP24 := Lib.hid (hP23.out.below hb24)
                      obtain ⟨lP24, mP24⟩ := hP24.out.cs
                      have hQ24 := Lib.hid (hQ23.out.below hb24)
                      obtain ⟨lQ24, mQ24⟩ := hQ24.out.cs
                      have hR24 := Lib.hid (hR23.out.below hb24)
                      obtain ⟨lR24, mR24⟩ := hR24.out.cs
                      have hX24 := Lib.hid (hX23.out.below hb24)
                      obtain ⟨lX24, mX24⟩ := hX24.out.cs
                      clear hb24
                      rw [w4]
                      go_wp2_with fail
                      go_roundw
                      case rel => exact ⟨q + 1, b, by omega, by go_num, rfl, hall, hP24, hQ24, hR24, hV24, HB24⟩
                      case measure => simp [intOf]; omega
                  · go_wp2_with fail
                    refine (rless_run _ _ _ _ _ (by omega) (by omega)).mono ?_
                    rintro e V21 ⟨rfl, hb21⟩
                    have hV21 := Lib.hid (hV20.out.below hb21)
                    have HB21 := Lib.hid (bstep HB20.out hb21)
                    have hP21 := Lib.hid (hP20.out.below hb21)
                    obtain ⟨lP21, mP21⟩ := hP21.out.cs
                    have hQ21 := Lib.hid (hQ20.out.below hb21)
                    obtain ⟨lQ21, mQ21⟩ := hQ21.out.cs
                    have hR21 := Lib.hid (hR20.out.below hb21)
                    obtain ⟨lR21, mR21⟩ := hR21.out.cs
                    have hX21 := Lib.hid (hX20.out.below hb21)
                    obtain ⟨lX21, mX21⟩ := hX21.out.cs
                    clear hb21
                    rw [w1]
                    go_wp2_with fail
                    refine (rcompat_run _ _ _ _ _ (by omega) (by omega)).mono ?_
                    rintro e V22 ⟨rfl, hb22⟩
                    have hV22 := Lib.hid (hV21.out.below hb22)
                    have HB22 := Lib.hid (bstep HB21.out hb22)
                    have hP22 := Lib.hid (hP21.out.below hb22)
                    obtain ⟨lP22, mP22⟩ := hP22.out.cs
                    have hQ22 := Lib.hid (hQ21.out.below hb22)
                    obtain ⟨lQ22, mQ22⟩ := hQ22.out.cs
                    have hR22 := Lib.hid (hR21.out.below hb22)
                    obtain ⟨lR22, mR22⟩ := hR22.out.cs
                    have hX22 := Lib.hid (hX21.out.below hb22)
                    obtain ⟨lX22, mX22⟩ := hX22.out.cs
                    clear hb22
                    rw [w2]
                    go_wp2_with fail
                    refine (aborts_run _ _ _ _ _ (by omega) (by omega)).mono ?_
                    rintro e V23 ⟨rfl, hb23⟩
                    have hV23 := Lib.hid (hV22.out.below hb23)
                    have HB23 := Lib.hid (bstep HB22.out hb23)
                    have hP23 := Lib.hid (hP22.out.below hb23)
                    obtain ⟨lP23, mP23⟩ := hP23.out.cs
                    have hQ23 := Lib.hid (hQ22.out.below hb23)
                    obtain ⟨lQ23, mQ23⟩ := hQ23.out.cs
                    have hR23 := Lib.hid (hR22.out.below hb23)
                    obtain ⟨lR23, mR23⟩ := hR23.out.cs
                    have hX23 := Lib.hid (hX22.out.below hb23)
                    obtain ⟨lX23, mX23⟩ := hX23.out.cs
                    clear hb23
                    rw [w3]
                    go_wp2_with fail
                    go_roundw
                    case rel => exact ⟨q + 1, b, by omega, by go_num, rfl, hall, hP23, hQ23, hR23, hV23, HB23⟩
                    case measure => simp [intOf]; omega
                · go_wp2_with fail
                  refine (rless_run _ _ _ _ _ (by omega) (by omega)).mono ?_
                  rintro e V21 ⟨rfl, hb21⟩
                  have hV21 := Lib.hid (hV20.out.below hb21)
                  have HB21 := Lib.hid (bstep HB20.out hb21)
                  have hP21 := Lib.hid (hP20.out.below hb21)
                  obtain ⟨lP21, mP21⟩ := hP21.out.cs
                  have hQ21 := Lib.hid (hQ20.out.below hb21)
                  obtain ⟨lQ21, mQ21⟩ := hQ21.out.cs
                  have hR21 := Lib.hid (hR20.out.below hb21)
                  obtain ⟨lR21, mR21⟩ := hR21.out.cs
                  have hX21 := Lib.hid (hX20.out.below hb21)
                  obtain ⟨lX21, mX21⟩ := hX21.out.cs
                  clear hb21
                  rw [w1]
                  go_wp2_with fail
                  refine (rcompat_run _ _ _ _ _ (by omega) (by omega)).mono ?_
                  rintro e V22 ⟨rfl, hb22⟩
                  have hV22 := Lib.hid (hV21.out.below hb22)
                  have HB22 := Lib.hid (bstep HB21.out hb22)
                  have hP22 := Lib.hid (hP21.out.below hb22)
                  obtain ⟨lP22, mP22⟩ := hP22.out.cs
                  have hQ22 := Lib.hid (hQ21.out.below hb22)
                  obtain ⟨lQ22, mQ22⟩ := hQ22.out.cs
                  have hR22 := Lib.hid (hR21.out.below hb22)
                  obtain ⟨lR22, mR22⟩ := hR22.out.cs
                  have hX22 := Lib.hid (hX21.out.below hb22)
                  obtain ⟨lX22, mX22⟩ := hX22.out.cs
                  clear hb22
                  rw [w2]
                  go_wp2_with fail
                  go_roundw
                  case rel => exact ⟨q + 1, b, by omega, by go_num, rfl, hall, hP22, hQ22, hR22, hV22, HB22⟩
                  case measure => simp [intOf]; omega
            · go_wp2_with fail
              go_roundw
              case rel => exact ⟨x + 1, b, by go_num, by omega, by omega, rfl, hall, hPr, hQr, hRr, hBr⟩
              case measure => simp [intOf]; omega
        · obtain ⟨lP, mP⟩ := hPr0.out.cs
          obtain ⟨lQ, mQ⟩ := hQr0.out.cs
          obtain ⟨lR, mR⟩ := hRr0.out.cs
          cases hp : prepB c i D J f k
          · go_wp2_with fail
            refine (prepares_run _ _ _ _ _ _ _ (by omega) (by omega) (by omega)).mono ?_
            rintro e Z1 ⟨rfl, hb1⟩
            rw [hp]
            go_wp2_with fail
            refine (sane23 _).mono ?_
            rintro e Z2 ⟨rfl, hb2⟩
            go_wp2_with fail
            go_ret
            exact ⟨rfl, bstep (bstep hBr0.out hb1) hb2⟩
          · obtain rfl : b = true := hall0.out hp
            go_wp2_with fail
            refine (prepares_run _ _ _ _ _ _ _ (by omega) (by omega) (by omega)).mono ?_
            rintro e Z1 ⟨rfl, hb1⟩
            rw [hp]
            go_wp2_with fail
            refine (sane23 _).mono ?_
            rintro e Z2 ⟨rfl, hb2⟩
            go_wp2_with fail
            go_ret
            exact ⟨rfl, bstep (bstep hBr0.out hb1) hb2⟩
end Go.Proofs.Ytolodegbilagbaa
