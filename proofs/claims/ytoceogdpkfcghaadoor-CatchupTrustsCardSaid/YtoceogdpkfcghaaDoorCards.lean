/-
  DERIVED. GIVEN WITH THE SEED: THE CARDS: each row of YtoceogdpkfcghaaDoorRows.lean that lists a variable, with what it lists TIED to the program's text (the seventh form; the later family's looks); each row that meets fmt, with fmt's text TOLD by the authors' own Lean function (tested against real Go, not proved from fmt's source: count such statements apart). THE CARD IS WHAT COUNTS. Prove the row's statement (the work); the ties are given (YtoceogdpkfcghaaDoorTie.lean); close each card by the builder's one call (the guide's Derived/Test/ToyasCard.lean, 'card_holds'). Laid BY PROGRAM, IN A SANDBOX (cutbox-door.mjs). By AI agents, Wed Nov 11 2026. No macro, syntax, notation, axiom, sorry.
-/
import Derived.Test.YtoceogdpkfcghaaDoorRows
import GoSem.ClaimSeven
namespace Go.Proofs.YtoceogdpkfcghaaDoor
namespace Rows

/-- THE TIED CARD OF 'trustquorumlaw42.CatchupTrusts'. -/
def catchupTrustsCard : Claim7 := { stood := { row := catchupTrustsRow, standIns := [], harness := (true, "839d887181346912547373cccdaef4ea7f1d4cf2a5656acb349b0745b59ffe0a"), looks := false }, kinds := [], alts := [], laidByText := true, laidKinds := [.data, .data, .data], laidTests := true, laidLooks := .later }
def CatchupTrustsCardSaid : Prop := Claim7.holds Tryd.pinned (.plain (OpenSpec.ofChange catchupTrustsSpec)) catchupTrustsCard

/-- THE SECOND FORM's CARD OF 'trustquorumlaw42.CatchupTrusts'. -/
def catchupTrustsUptoCard : Claim7 := { stood := { row := catchupTrustsUptoRow, standIns := [], harness := (true, "839d887181346912547373cccdaef4ea7f1d4cf2a5656acb349b0745b59ffe0a"), looks := false }, kinds := [], alts := [], laidByText := true, laidKinds := [.data, .data, .data], laidTests := true, laidLooks := .later }
def CatchupTrustsUptoCardSaid : Prop := Claim7.holds Tryd.pinned (.plain (OpenSpec.upto catchupTrustsSpec)) catchupTrustsUptoCard
end Rows
end Go.Proofs.YtoceogdpkfcghaaDoor
