/- Facts on several cells at once. -/
import Derived.Test.YtnnajmoedihkjaaAcc
namespace Go.Proofs.Ytnnajmoedihkjaa
set_option linter.unusedVariables false
set_option linter.unusedSimpArgs false
open Go.RowKit

def Cs : List (Addr × Value) → World → Prop
  | [], _ => True
  | (a, v) :: l, W => W.cell? a = some v ∧ Cs l W

theorem Cs.below {W W' : World} : ∀ {l : List (Addr × Value)}, Cs l W → Below W.heap.size W W' → Cs l W'
  | [], _, _ => trivial
  | (a, v) :: l, h, hb => ⟨(hb.cell (cell_lt h.1)).trans h.1, Cs.below h.2 hb⟩

theorem Cs.keep {W W' : World} {P : Nat → Prop} : ∀ {l : List (Addr × Value)}, Cs l W → (∀ x ∈ l, P x.1.block) → (∀ k, k < W.heap.size → P k → W'.heap[k]? = W.heap[k]?) → Cs l W'
  | [], _, _, _ => trivial
  | (a, v) :: l, h, hp, hk => ⟨(World.cell?_of_block (hk _ (cell_lt h.1) (hp _ List.mem_cons_self))).trans h.1, Cs.keep h.2 (fun x hx => hp x (List.mem_cons_of_mem _ hx)) hk⟩

theorem Cs.alloc {W : World} {l : List (Addr × Value)} (h : Cs l W) (o : Obj) : Cs l (W.alloc o) := h.below (balloc (bref _) _)

theorem Cs.drew {W : World} : ∀ {l : List (Addr × Value)}, Cs l W → Cs l W.drew
  | [], _ => trivial
  | (a, v) :: l, h => ⟨h.1, Cs.drew h.2⟩

theorem Cs.app {W : World} : ∀ {l m : List (Addr × Value)}, Cs l W → Cs m W → Cs (l ++ m) W
  | [], _, _, k => k
  | (a, v) :: l, m, h, k => ⟨h.1, Cs.app h.2 k⟩

theorem Cs.one {W : World} {a : Addr} {v : Value} (h : W.cell? a = some v) : Cs [(a, v)] W := ⟨h, trivial⟩
section
variable (W : World) (t : TypeId)

theorem box2 (v0 v1 : Value) : Cs [(⟨W.heap.size, 0, none⟩, v0), (⟨W.heap.size, 1, none⟩, v1)] (W.alloc (.cells #[v0, v1] t)) := ⟨row_new W _ t 0, row_new W _ t 1, trivial⟩

theorem box3 (v0 v1 v2 : Value) : Cs [(⟨W.heap.size, 0, none⟩, v0), (⟨W.heap.size, 1, none⟩, v1), (⟨W.heap.size, 2, none⟩, v2)] (W.alloc (.cells #[v0, v1, v2] t)) := ⟨row_new W _ t 0, row_new W _ t 1, row_new W _ t 2, trivial⟩

theorem box5 (v0 v1 v2 v3 v4 : Value) : Cs [(⟨W.heap.size, 0, none⟩, v0), (⟨W.heap.size, 1, none⟩, v1), (⟨W.heap.size, 2, none⟩, v2), (⟨W.heap.size, 3, none⟩, v3), (⟨W.heap.size, 4, none⟩, v4)] (W.alloc (.cells #[v0, v1, v2, v3, v4] t)) := ⟨row_new W _ t 0, row_new W _ t 1, row_new W _ t 2, row_new W _ t 3, row_new W _ t 4, trivial⟩

theorem box7 (v0 v1 v2 v3 v4 v5 v6 : Value) : Cs [(⟨W.heap.size, 0, none⟩, v0), (⟨W.heap.size, 1, none⟩, v1), (⟨W.heap.size, 2, none⟩, v2), (⟨W.heap.size, 3, none⟩, v3), (⟨W.heap.size, 4, none⟩, v4), (⟨W.heap.size, 5, none⟩, v5), (⟨W.heap.size, 6, none⟩, v6)] (W.alloc (.cells #[v0, v1, v2, v3, v4, v5, v6] t)) := ⟨row_new W _ t 0, row_new W _ t 1, row_new W _ t 2, row_new W _ t 3, row_new W _ t 4, row_new W _ t 5, row_new W _ t 6, trivial⟩

theorem box9 (v0 v1 v2 v3 v4 v5 v6 v7 v8 : Value) : Cs [(⟨W.heap.size, 0, none⟩, v0), (⟨W.heap.size, 1, none⟩, v1), (⟨W.heap.size, 2, none⟩, v2), (⟨W.heap.size, 3, none⟩, v3), (⟨W.heap.size, 4, none⟩, v4), (⟨W.heap.size, 5, none⟩, v5), (⟨W.heap.size, 6, none⟩, v6), (⟨W.heap.size, 7, none⟩, v7), (⟨W.heap.size, 8, none⟩, v8)] (W.alloc (.cells #[v0, v1, v2, v3, v4, v5, v6, v7, v8] t)) := ⟨row_new W _ t 0, row_new W _ t 1, row_new W _ t 2, row_new W _ t 3, row_new W _ t 4, row_new W _ t 5, row_new W _ t 6, row_new W _ t 7, row_new W _ t 8, trivial⟩
end

/-- A ledger in memory. -/
def valG (g : Led) (va vl vo : Value) : Value := .agg #[.int .i64 g.number, va, vl, vo, .int .i64 g.next, .int .i64 g.fees, .int .u64 g.link]

structure LedAt (P : Nat → Prop) (w : World) (va vl vo : Value) (g : Led) : Prop where
  a : AccAt P w va g.accs
  l : LinAt P w vl g.lines
  o : OffAt P w vo g.offers

theorem LedAt.below {P : Nat → Prop} {w w' : World} {va vl vo : Value} {g : Led} (h : LedAt P w va vl vo g) (hb : Below w.heap.size w w') : LedAt P w' va vl vo g := ⟨h.a.below hb, h.l.below hb, h.o.below hb⟩

theorem LedAt.both {P Q : Nat → Prop} {w w' : World} {va vl vo : Value} {g : Led} (h : LedAt P w va vl vo g) (hs : w.heap.size ≤ w'.heap.size) (hk : ∀ k, k < w.heap.size → P k → w'.heap[k]? = w.heap[k]?) (hq : ∀ k, k < w.heap.size → P k → Q k) : LedAt Q w' va vl vo g := ⟨h.a.both hs hk hq, h.l.both hs hk hq, h.o.both hs hk hq⟩

theorem LedAt.form {P : Nat → Prop} {w : World} {va vl vo : Value} {g : Led} (h : LedAt P w va vl vo g) : ∃ A c B d C e, va = .slice A g.accs.length c ∧ vl = .slice B g.lines.length d ∧ vo = .slice C g.offers.length e ∧ g.accs.length ≤ c ∧ c ≤ maxLen ∧ g.lines.length ≤ d ∧ d ≤ maxLen ∧ g.offers.length ≤ e ∧ e ≤ maxLen := by
  obtain ⟨A, c, h1, h2, h3⟩ := h.a.slice
  obtain ⟨B, d, h4, h5, h6⟩ := h.l.slice
  obtain ⟨C, e, h7, h8, h9⟩ := h.o.slice
  exact ⟨A, c, B, d, C, e, h1, h4, h7, h2, h3, h5, h6, h8, h9⟩

end Go.Proofs.Ytnnajmoedihkjaa
