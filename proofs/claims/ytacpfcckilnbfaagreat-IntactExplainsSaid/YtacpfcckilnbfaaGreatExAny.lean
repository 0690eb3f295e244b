/- intact.Explain: its result is accepted, and says intact exactly for an intact member. -/
import Derived.Test.YtacpfcckilnbfaaGreatExplain4
import Derived.Test.YtacpfcckilnbfaaGreatRef15b
import Derived.Test.YtacpfcckilnbfaaGreatXpl
import Derived.Test.YtacpfcckilnbfaaGreatB7
namespace Go.Proofs.YtacpfcckilnbfaaGreat
set_option linter.unusedVariables false
set_option linter.unusedSimpArgs false
open Go.RowKit

/-- The explanation K, S, X, Y, rv is right in every later world. -/
def ExOk (ls hs : List Mem) (vl vh : Value) (s v a : Nat) (K S X Y : Int) (rv : Value) (w' : World) : Prop := ((K == 1) = a.testBit v) ∧ ∀ (P Q : Nat → Prop) (W : World), Below w'.heap.size w' W → MemsAt P 3 W vl ls → MemsAt Q 3 W vh hs →
  (Calls Tryz.prog 40 #[.agg #[vl], .agg #[vh], .int .i64 (s : Int), .int .i64 (v : Int), .agg #[.int .i64 K, .int .i64 S, .int .i64 X, .int .i64 Y, rv]] W fun e W' => e = .returned (.bool true) ∧ Below W.heap.size W W') ∧
  (Calls Tryz.prog 41 #[.agg #[vl], .agg #[vh], .int .i64 (s : Int), .int .i64 (v : Int), .agg #[.int .i64 K, .int .i64 S, .int .i64 X, .int .i64 Y, rv]] W fun e W' => e = .returned (.bool true) ∧ Below W.heap.size W W')
theorem ar_uniq {n s v : Nat} {L L' : List Nat} (h : ArIs n s v L) (h' : ArIs n s v L') : L = L' := asc_ext h.1 h'.1 (fun t => by rw [h.2.2 t, h'.2.2 t])
theorem below_all {P : Nat → Prop} {w : World} {v : Value} {ms : List Mem} {d : Nat} (h : MemsAt P d w v ms) : MemsAt (fun b => b < w.heap.size) d w v ms := h.both (w' := w) (fun _ _ _ => rfl) (fun _ hk _ => hk)
theorem inexplain_run (P Q : Nat → Prop) (ls hs : List Mem) (vl vh : Value) (s v a : Nat) (hsx : s < 2 ^ ls.length) (hvx : v < ls.length) (ha : OfIs s ls hs a) (w : World) (hl : ls.length ≤ 7) (h1 : MemsAt P 3 w vl ls) (h2 : MemsAt Q 3 w vh hs) (hp : PairM ls hs) :
    Calls Tryz.prog 39 #[.agg #[vl], .agg #[vh], .int .i64 (s : Int), .int .i64 (v : Int)] w fun e w' => (∃ (K S X Y : Int) (A : Option Addr) (m c : Nat), e = .returned (.tuple #[.agg #[.int .i64 K, .int .i64 S, .int .i64 X, .int .i64 Y, .slice A m c], .int .i64 0]) ∧ ExOk ls hs vl vh s v a K S X Y (.slice A m c) w') ∧ Below w.heap.size w w' := by
  rcases (show a.testBit v = false ∨ a.testBit v = true by cases a.testBit v <;> simp) with hav | hav
  · rcases Classical.em (InT (D3.delM s ls)) with hin | hin
    · rcases (show s.testBit v = false ∨ s.testBit v = true by cases s.testBit v <;> simp) with hsv | hsv
      · refine (inexplain4_run _ _ ls hs vl vh s v a hsx hvx ha hav hin hsv w (fun b hb => hb) (fun b hb => hb) hl (below_all h1) (below_all h2) hp).mono ?_
        rintro e w' ⟨⟨rv, rs, rfl, hR, L, hL, hlen, hgd⟩, hb⟩
        obtain ⟨A, c, rfl, _, _⟩ := hR.slice
        have hgd2 : ∀ L', ArIs ls.length s v L' → rs.length = L'.length ∧ ∀ (i t : Nat) (r : Rft), L'[i]? = some t → rs[i]? = some r → RefGood t ls hs r := fun L' hL' => by
          obtain rfl := ar_uniq hL hL'
          exact ⟨hlen, hgd⟩
        exact ⟨⟨4, 0, 0, 0, A, _, c, rfl, by rw [hav]; rfl, fun P' Q' W hb2 m1 m2 => ⟨rincheckT4_run P' Q' ls hs vl vh s v rs _ _ hsx hvx hgd2 W (hR.below hb2) hl m1 m2 hp, incheckT4_run P' Q' ls hs vl vh s v rs _ _ hsx hvx hgd2 W (hR.below hb2) hl m1 m2 hp⟩⟩, hb⟩
      · refine (inexplain3_run P Q ls hs vl vh s v a hsx hvx ha hav hin hsv w hl h1 h2 hp).mono ?_
        rintro e w' ⟨rfl, hb⟩
        exact ⟨⟨3, 0, 0, 0, none, 0, 0, rfl, by rw [hav]; rfl, fun P' Q' W hb2 m1 m2 => ⟨rincheckT3_run P' Q' ls hs vl vh s v none 0 hsx hvx hsv W hl m1 m2 hp, incheckT3_run P' Q' ls hs vl vh s v none 0 hsx hvx hsv W hl m1 m2 hp⟩⟩, hb⟩
    · refine (inexplain2_run P Q ls hs vl vh s v a hsx hvx ha hav hin w hl h1 h2 hp).mono ?_
      rintro e w' ⟨⟨p, r, p1, r1, q1, q2, hpr, rfl⟩, hb⟩
      exact ⟨⟨2, 0, p, r, none, 0, 0, rfl, by rw [hav]; rfl, fun P' Q' W hb2 m1 m2 => ⟨rincheckT2_run P' Q' ls hs vl vh s v p r none 0 hsx hvx p1 r1 q1 q2 hpr W hl m1 m2 hp, incheckT2_run P' Q' ls hs vl vh s v p r none 0 hsx hvx p1 r1 q1 q2 hpr W hl m1 m2 hp⟩⟩, hb⟩
  · refine (inexplain1_run P Q ls hs vl vh s v a hsx hvx ha hav w hl h1 h2 hp).mono ?_
    rintro e w' ⟨rfl, hb⟩
    exact ⟨⟨1, ((outS ls.length a : Nat) : Int), 0, 0, none, 0, 0, rfl, by rw [hav]; rfl, fun P' Q' W hb2 m1 m2 => ⟨rincheckT1_run P' Q' ls hs vl vh s v a _ none 0 hsx hvx rfl ha hav W hl m1 m2 hp, incheckT1_run P' Q' ls hs vl vh s v a _ none 0 hsx hvx rfl ha hav W hl m1 m2 hp⟩⟩, hb⟩
end Go.Proofs.YtacpfcckilnbfaaGreat
