/-
  DERIVED. GIVEN WITH THE SEED: THE CARDS: each row of YtbbdmaakphoofaaDoorRows.lean that lists a variable, with what it lists TIED to the program's text (the seventh form; the later family's looks); each row that meets fmt, with fmt's text TOLD by the authors' own Lean function (tested against real Go, not proved from fmt's source: count such statements apart). THE CARD IS WHAT COUNTS. Prove the row's statement (the work); the ties are given (YtbbdmaakphoofaaDoorTie.lean); close each card by the builder's one call (the guide's Derived/Test/ToyasCard.lean, 'card_holds'). Laid BY PROGRAM, IN A SANDBOX (cutbox-door.mjs). By AI agents, Wed Nov 11 2026. No macro, syntax, notation, axiom, sorry.
-/
import Derived.Test.YtbbdmaakphoofaaDoorRows
import GoSem.ClaimSeven
namespace Go.Proofs.YtbbdmaakphoofaaDoor
namespace Rows

/-- THE TIED CARD OF 'trustquorumlaw13.DeletionQuorums'. -/
def deletionQuorumsCard : Claim7 := { stood := { row := deletionQuorumsRow, standIns := [], harness := (true, "66fb925fe64dfd17cb2be53fa79b2a5aef1bbcf0da821045ac1db6ae69ceb832"), looks := false }, kinds := [], alts := [], laidByText := true, laidKinds := [.data, .data, .data], laidTests := true, laidLooks := .later }
def DeletionQuorumsCardSaid : Prop := Claim7.holds Tryd.pinned (.plain (OpenSpec.ofChange deletionQuorumsSpec)) deletionQuorumsCard

/-- THE TIED CARD OF 'trustquorumlaw01.NodesetNext'. -/
def nodesetNextCard : Claim7 := { stood := { row := nodesetNextRow, standIns := [], harness := (true, "66fb925fe64dfd17cb2be53fa79b2a5aef1bbcf0da821045ac1db6ae69ceb832"), looks := false }, kinds := [], alts := [], laidByText := true, laidKinds := [.data, .data, .data], laidTests := true, laidLooks := .later }
def NodesetNextCardSaid : Prop := Claim7.holds Tryd.pinned (.plain (OpenSpec.ofChange nodesetNextSpec)) nodesetNextCard

/-- THE TIED CARD OF 'trustquorumlaw01.NodesetSubsets'. -/
def nodesetSubsetsCard : Claim7 := { stood := { row := nodesetSubsetsRow, standIns := [], harness := (true, "66fb925fe64dfd17cb2be53fa79b2a5aef1bbcf0da821045ac1db6ae69ceb832"), looks := false }, kinds := [], alts := [], laidByText := true, laidKinds := [.data, .data, .data], laidTests := true, laidLooks := .later }
def NodesetSubsetsCardSaid : Prop := Claim7.holds Tryd.pinned (.plain (OpenSpec.ofChange nodesetSubsetsSpec)) nodesetSubsetsCard

/-- THE TIED CARD OF 'trustquorumlaw01.NodesetLeast'. -/
def nodesetLeastCard : Claim7 := { stood := { row := nodesetLeastRow, standIns := [], harness := (true, "66fb925fe64dfd17cb2be53fa79b2a5aef1bbcf0da821045ac1db6ae69ceb832"), looks := false }, kinds := [], alts := [], laidByText := true, laidKinds := [.data, .data, .data], laidTests := true, laidLooks := .later }
def NodesetLeastCardSaid : Prop := Claim7.holds Tryd.pinned (.plain (OpenSpec.ofChange nodesetLeastSpec)) nodesetLeastCard

/-- THE TIED CARD OF 'trustquorumlaw01.NodesetMeets'. -/
def nodesetMeetsCard : Claim7 := { stood := { row := nodesetMeetsRow, standIns := [], harness := (true, "66fb925fe64dfd17cb2be53fa79b2a5aef1bbcf0da821045ac1db6ae69ceb832"), looks := false }, kinds := [], alts := [], laidByText := true, laidKinds := [.data, .data, .data], laidTests := true, laidLooks := .later }
def NodesetMeetsCardSaid : Prop := Claim7.holds Tryd.pinned (.plain (OpenSpec.ofChange nodesetMeetsSpec)) nodesetMeetsCard

/-- THE SECOND FORM's CARD OF 'trustquorumlaw13.DeletionQuorums'. -/
def deletionQuorumsUptoCard : Claim7 := { stood := { row := deletionQuorumsUptoRow, standIns := [], harness := (true, "66fb925fe64dfd17cb2be53fa79b2a5aef1bbcf0da821045ac1db6ae69ceb832"), looks := false }, kinds := [], alts := [], laidByText := true, laidKinds := [.data, .data, .data], laidTests := true, laidLooks := .later }
def DeletionQuorumsUptoCardSaid : Prop := Claim7.holds Tryd.pinned (.plain (OpenSpec.upto deletionQuorumsSpec)) deletionQuorumsUptoCard

/-- THE SECOND FORM's CARD OF 'trustquorumlaw01.NodesetNext'. -/
def nodesetNextUptoCard : Claim7 := { stood := { row := nodesetNextUptoRow, standIns := [], harness := (true, "66fb925fe64dfd17cb2be53fa79b2a5aef1bbcf0da821045ac1db6ae69ceb832"), looks := false }, kinds := [], alts := [], laidByText := true, laidKinds := [.data, .data, .data], laidTests := true, laidLooks := .later }
def NodesetNextUptoCardSaid : Prop := Claim7.holds Tryd.pinned (.plain (OpenSpec.upto nodesetNextSpec)) nodesetNextUptoCard

/-- THE SECOND FORM's CARD OF 'trustquorumlaw01.NodesetSubsets'. -/
def nodesetSubsetsUptoCard : Claim7 := { stood := { row := nodesetSubsetsUptoRow, standIns := [], harness := (true, "66fb925fe64dfd17cb2be53fa79b2a5aef1bbcf0da821045ac1db6ae69ceb832"), looks := false }, kinds := [], alts := [], laidByText := true, laidKinds := [.data, .data, .data], laidTests := true, laidLooks := .later }
def NodesetSubsetsUptoCardSaid : Prop := Claim7.holds Tryd.pinned (.plain (OpenSpec.upto nodesetSubsetsSpec)) nodesetSubsetsUptoCard

/-- THE SECOND FORM's CARD OF 'trustquorumlaw01.NodesetLeast'. -/
def nodesetLeastUptoCard : Claim7 := { stood := { row := nodesetLeastUptoRow, standIns := [], harness := (true, "66fb925fe64dfd17cb2be53fa79b2a5aef1bbcf0da821045ac1db6ae69ceb832"), looks := false }, kinds := [], alts := [], laidByText := true, laidKinds := [.data, .data, .data], laidTests := true, laidLooks := .later }
def NodesetLeastUptoCardSaid : Prop := Claim7.holds Tryd.pinned (.plain (OpenSpec.upto nodesetLeastSpec)) nodesetLeastUptoCard

/-- THE SECOND FORM's CARD OF 'trustquorumlaw01.NodesetMeets'. -/
def nodesetMeetsUptoCard : Claim7 := { stood := { row := nodesetMeetsUptoRow, standIns := [], harness := (true, "66fb925fe64dfd17cb2be53fa79b2a5aef1bbcf0da821045ac1db6ae69ceb832"), looks := false }, kinds := [], alts := [], laidByText := true, laidKinds := [.data, .data, .data], laidTests := true, laidLooks := .later }
def NodesetMeetsUptoCardSaid : Prop := Claim7.holds Tryd.pinned (.plain (OpenSpec.upto nodesetMeetsSpec)) nodesetMeetsUptoCard
end Rows
end Go.Proofs.YtbbdmaakphoofaaDoor
