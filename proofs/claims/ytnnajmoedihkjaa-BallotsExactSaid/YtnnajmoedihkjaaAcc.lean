/- Accounts, lines and offers of a ledger in memory. -/
import Derived.Test.YtnnajmoedihkjaaRowS
import Derived.Test.YtnnajmoedihkjaaAsset
namespace Go.Proofs.Ytnnajmoedihkjaa
set_option linter.unusedVariables false
set_option linter.unusedSimpArgs false
open Go.RowKit

structure Acc where
  id : Int
  bal : Int
  seq : Int

structure Lin where
  acc : Int
  ast : Nat
  bal : Int
  lim : Int

structure Off where
  id : Int
  seller : Int
  sel : Nat
  buy : Nat
  amt : Int
  num : Nat
  den : Nat

structure Led where
  number : Int
  accs : List Acc
  lines : List Lin
  offers : List Off
  next : Int
  fees : Int
  link : Int

def encA (a : Acc) : List Value := [.int .i64 a.id, .int .i64 a.bal, .int .i64 a.seq]

def encL (l : Lin) : List Value := [.int .i64 l.acc, .string (codeOf l.ast), .int .i64 (issOf l.ast), .int .i64 l.bal, .int .i64 l.lim]

def encO (o : Off) : List Value := [.int .i64 o.id, .int .i64 o.seller, .string (codeOf o.sel), .int .i64 (issOf o.sel), .string (codeOf o.buy), .int .i64 (issOf o.buy), .int .i64 o.amt, .int .i64 (o.num : Int), .int .i64 (o.den : Int)]

theorem encA_len (a : Acc) : (encA a).length = 3 := rfl

theorem encL_len (a : Lin) : (encL a).length = 5 := rfl

theorem encO_len (a : Off) : (encO a).length = 9 := rfl

abbrev AccAt (P : Nat → Prop) (w : World) (v : Value) (L : List Acc) : Prop := RowAt 3 encA P w v L
abbrev LinAt (P : Nat → Prop) (w : World) (v : Value) (L : List Lin) : Prop := RowAt 5 encL P w v L
abbrev OffAt (P : Nat → Prop) (w : World) (v : Value) (L : List Off) : Prop := RowAt 9 encO P w v L

theorem accBox {P : Nat → Prop} {w : World} {A : Option Addr} {m c k : Nat} {L : List Acc} {a : Acc} (h : AccAt P w (.slice A m c) L) (hx : L[k]? = some a) :
    ∃ b off, A = some ⟨b, off, none⟩ ∧ P b ∧ b < w.heap.size ∧ w.cell? ⟨b, off + k * 3, none⟩ = some (.int .i64 a.id) ∧ w.cell? ⟨b, off + k * 3 + 1, none⟩ = some (.int .i64 a.bal) ∧ w.cell? ⟨b, off + k * 3 + 2, none⟩ = some (.int .i64 a.seq) := by
  obtain ⟨b, off, e0, e1, e2, e3⟩ := h.at_ hx
  exact ⟨b, off, e0, e1, e2, e3 0 _ rfl, e3 1 _ rfl, e3 2 _ rfl⟩

theorem linBox {P : Nat → Prop} {w : World} {A : Option Addr} {m c k : Nat} {L : List Lin} {a : Lin} (h : LinAt P w (.slice A m c) L) (hx : L[k]? = some a) :
    ∃ b off, A = some ⟨b, off, none⟩ ∧ P b ∧ b < w.heap.size ∧ w.cell? ⟨b, off + k * 5, none⟩ = some (.int .i64 a.acc) ∧ w.cell? ⟨b, off + k * 5 + 1, none⟩ = some (.string (codeOf a.ast)) ∧ w.cell? ⟨b, off + k * 5 + 2, none⟩ = some (.int .i64 (issOf a.ast)) ∧ w.cell? ⟨b, off + k * 5 + 3, none⟩ = some (.int .i64 a.bal) ∧ w.cell? ⟨b, off + k * 5 + 4, none⟩ = some (.int .i64 a.lim) := by
  obtain ⟨b, off, e0, e1, e2, e3⟩ := h.at_ hx
  exact ⟨b, off, e0, e1, e2, e3 0 _ rfl, e3 1 _ rfl, e3 2 _ rfl, e3 3 _ rfl, e3 4 _ rfl⟩

theorem offBox {P : Nat → Prop} {w : World} {A : Option Addr} {m c k : Nat} {L : List Off} {a : Off} (h : OffAt P w (.slice A m c) L) (hx : L[k]? = some a) :
    ∃ b off, A = some ⟨b, off, none⟩ ∧ P b ∧ b < w.heap.size ∧ w.cell? ⟨b, off + k * 9, none⟩ = some (.int .i64 a.id) ∧ w.cell? ⟨b, off + k * 9 + 1, none⟩ = some (.int .i64 a.seller) ∧ w.cell? ⟨b, off + k * 9 + 2, none⟩ = some (.string (codeOf a.sel)) ∧ w.cell? ⟨b, off + k * 9 + 3, none⟩ = some (.int .i64 (issOf a.sel)) ∧ w.cell? ⟨b, off + k * 9 + 4, none⟩ = some (.string (codeOf a.buy)) ∧ w.cell? ⟨b, off + k * 9 + 5, none⟩ = some (.int .i64 (issOf a.buy)) ∧
      w.cell? ⟨b, off + k * 9 + 6, none⟩ = some (.int .i64 a.amt) ∧ w.cell? ⟨b, off + k * 9 + 7, none⟩ = some (.int .i64 (a.num : Int)) ∧ w.cell? ⟨b, off + k * 9 + 8, none⟩ = some (.int .i64 (a.den : Int)) := by
  obtain ⟨b, off, e0, e1, e2, e3⟩ := h.at_ hx
  exact ⟨b, off, e0, e1, e2, e3 0 _ rfl, e3 1 _ rfl, e3 2 _ rfl, e3 3 _ rfl, e3 4 _ rfl, e3 5 _ rfl, e3 6 _ rfl, e3 7 _ rfl, e3 8 _ rfl⟩

/-- An account by itself is right. -/
structure AccG (a : Acc) : Prop where
  i0 : 1 ≤ a.id
  i1 : a.id ≤ 1000
  b0 : 0 ≤ a.bal
  b1 : a.bal ≤ 1000000000000
  s0 : 0 ≤ a.seq
  s1 : a.seq ≤ 1000000

structure AccsOk (L : List Acc) : Prop where
  len : L.length ≤ 20
  each : ∀ (k : Nat) (a : Acc), L[k]? = some a → AccG a
  asc : ∀ (k : Nat) (a b : Acc), L[k]? = some a → L[k + 1]? = some b → a.id < b.id

/-- Where the account with an ID stands. -/
def findA (i : Int) (L : List Acc) : Nat := L.findIdx (fun a => decide (a.id = i))

def hasA (i : Int) (L : List Acc) : Bool := decide (findA i L < L.length)

theorem findA_le (i : Int) (L : List Acc) : findA i L ≤ L.length := List.findIdx_le_length

theorem findA_none {i : Int} {L : List Acc} (h : ∀ (k : Nat) (a : Acc), L[k]? = some a → a.id ≠ i) : findA i L = L.length := by
  unfold findA
  rw [List.findIdx_eq_length]
  intro x hx
  obtain ⟨k, hk, rfl⟩ := List.getElem_of_mem hx
  exact decide_eq_false (h k _ (List.getElem?_eq_getElem hk))

theorem findA_at {i : Int} {L : List Acc} {k : Nat} {a : Acc} (ha : L[k]? = some a) (hi : a.id = i) (h : ∀ (j : Nat) (b : Acc), j < k → L[j]? = some b → b.id ≠ i) : findA i L = k := by
  have hk : k < L.length := (List.getElem?_eq_some_iff.1 ha).1
  have he : L[k] = a := (List.getElem?_eq_some_iff.1 ha).2
  unfold findA
  rw [List.findIdx_eq hk]
  exact ⟨by rw [he, hi]; simp, fun j hj => decide_eq_false (h j _ hj (List.getElem?_eq_getElem (by omega)))⟩

theorem findA_spec {i : Int} {L : List Acc} (h : findA i L < L.length) : ∃ a : Acc, L[findA i L]? = some a ∧ a.id = i :=
  ⟨_, List.getElem?_eq_getElem h, by
    have h1 := List.findIdx_getElem (p := fun a : Acc => decide (a.id = i)) (xs := L) (w := h)
    exact of_decide_eq_true h1⟩

theorem mono_lt {L : List Acc} (h : ∀ (k : Nat) (a b : Acc), L[k]? = some a → L[k + 1]? = some b → a.id < b.id) : ∀ (d k : Nat) (a b : Acc), L[k]? = some a → L[k + d + 1]? = some b → a.id < b.id
  | 0, k, a, b, ha, hb => h k a b ha hb
  | d + 1, k, a, b, ha, hb => by
    have hl := (List.getElem?_eq_some_iff.1 hb).1
    have h1 := mono_lt h d k a _ ha (List.getElem?_eq_getElem (show k + d + 1 < L.length by omega))
    have h2 := h (k + d + 1) _ b (List.getElem?_eq_getElem (show k + d + 1 < L.length by omega)) hb
    omega

theorem AccsOk.lt {L : List Acc} (h : AccsOk L) {j k : Nat} {a b : Acc} (hj : j < k) (ha : L[j]? = some a) (hb : L[k]? = some b) : a.id < b.id := by
  obtain ⟨d, rfl⟩ : ∃ d, k = j + d + 1 := ⟨k - j - 1, by omega⟩
  exact mono_lt h.asc d j a b ha hb

theorem AccsOk.find {L : List Acc} (h : AccsOk L) {k : Nat} {a : Acc} (ha : L[k]? = some a) : findA a.id L = k :=
  findA_at ha rfl (fun j b hj hb e => by have := h.lt hj hb ha; omega)

theorem AccsOk.nil : AccsOk [] := ⟨by simp, fun k a h => by simp at h, fun k a b h => by simp at h⟩

end Go.Proofs.Ytnnajmoedihkjaa
