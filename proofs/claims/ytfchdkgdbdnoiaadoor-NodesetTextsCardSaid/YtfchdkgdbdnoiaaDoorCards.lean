/-
  DERIVED. GIVEN WITH THE SEED: THE CARDS: each row of YtfchdkgdbdnoiaaDoorRows.lean that lists a variable, with what it lists TIED to the program's text (the seventh form; the later family's looks); each row that meets fmt, with fmt's text TOLD by the authors' own Lean function (tested against real Go, not proved from fmt's source: count such statements apart). THE CARD IS WHAT COUNTS. Prove the row's statement (the work); the ties are given (YtfchdkgdbdnoiaaDoorTie.lean); close each card by the builder's one call (the guide's Derived/Test/ToyasCard.lean, 'card_holds'). Laid BY PROGRAM, IN A SANDBOX (cutbox-door.mjs). By AI agents, Wed Nov 11 2026. No macro, syntax, notation, axiom, sorry.
-/
import Derived.Test.YtfchdkgdbdnoiaaDoorRows
import GoSem.ClaimSeven
namespace Go.Proofs.YtfchdkgdbdnoiaaDoor
namespace Rows

/-- THE TIED CARD OF 'trustquorumlaw01.NodesetTexts'. -/
def nodesetTextsCard : Claim7 := { stood := { row := nodesetTextsRow, standIns := [], harness := (true, "1bc5cd76641ab201a2e02c6bf95645155517d46211ab973e3325d8d7429c2529"), looks := false }, kinds := [], alts := [], laidByText := true, laidKinds := [.data, .data, .data], laidTests := true, laidLooks := .later }
def NodesetTextsCardSaid : Prop := Claim7.holds Tryd.pinned (.plain (OpenSpec.ofChange nodesetTextsSpec)) nodesetTextsCard

/-- THE SECOND FORM's CARD OF 'trustquorumlaw01.NodesetTexts'. -/
def nodesetTextsUptoCard : Claim7 := { stood := { row := nodesetTextsUptoRow, standIns := [], harness := (true, "1bc5cd76641ab201a2e02c6bf95645155517d46211ab973e3325d8d7429c2529"), looks := false }, kinds := [], alts := [], laidByText := true, laidKinds := [.data, .data, .data], laidTests := true, laidLooks := .later }
def NodesetTextsUptoCardSaid : Prop := Claim7.holds Tryd.pinned (.plain (OpenSpec.upto nodesetTextsSpec)) nodesetTextsUptoCard
end Rows
end Go.Proofs.YtfchdkgdbdnoiaaDoor
