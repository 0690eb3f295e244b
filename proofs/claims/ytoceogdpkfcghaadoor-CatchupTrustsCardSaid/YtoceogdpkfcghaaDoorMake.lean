/- The contract of trustquorummake.trust: a trust over n nodes, of at most deep levels, made from a tape. -/
import Derived.Test.YtoceogdpkfcghaaDoorInner
import Derived.Deep.CutRange
import Derived.Deep.Onto
import Derived.Deep.RegionLaw
namespace Go.Proofs.YtoceogdpkfcghaaDoor
set_option linter.unusedVariables false
open Go.RowKit

theorem ne_own {v : Value} {B sb S : Nat} (h : ∀ j, v.ownBlock = some j → B ≤ j ∧ j < S) (hb : sb < B) : v.ownBlock = none ∨ v.ownBlock ≠ some sb := by
  right; intro e; have := (h sb e).1; omega

theorem own_slice {W : World} {B n : Nat} {v : Value} {xs : List Value} (h : W.ownsRow B 3 1 v n xs) : ∃ A c, v = .slice A n c := by
  rcases h.2 with ⟨hv, h0⟩ | ⟨g, cap, cur, hv, _⟩
  · exact ⟨none, 0, by rw [hv, h0]⟩
  · exact ⟨some ⟨g, 0, none⟩, cap, hv⟩

theorem own_below {W : World} {B n e size : Nat} {v : Value} {xs : List Value} {k : Nat} (h : W.ownsRow B e size v n xs) (hk : k < B) : v.ownBlock = none ∨ v.ownBlock ≠ some k := by
  right; intro e; have := (h.lt k e).1; omega

theorem infoTr : (Tryd.prog.info? 27).map (fun i => (i.zero, i.size, i.bytes)) = some (some (.agg #[.int .i64 0, .slice none 0 0, .slice none 0 0]), 3, 56) := infoTrust

end Go.Proofs.YtoceogdpkfcghaaDoor
