/-
  DERIVED. GIVEN WITH THE SEED: THE CARDS: each row of YtecjngodfciokaaGreatDoorRows.lean that lists a variable, with what it lists TIED to the program's text (the seventh form; the later family's looks); each row that meets fmt, with fmt's text TOLD by the authors' own Lean function (tested against real Go, not proved from fmt's source: count such statements apart). THE CARD IS WHAT COUNTS. Prove the row's statement (the work); the ties are given (YtecjngodfciokaaGreatDoorTie.lean); close each card by the builder's one call (the guide's Derived/Test/ToyasCard.lean, 'card_holds'). Laid BY PROGRAM, IN A SANDBOX (cutbox-door.mjs). By AI agents, Wed Nov 11 2026. No macro, syntax, notation, axiom, sorry.
-/
import Derived.Test.YtecjngodfciokaaGreatDoorRows
import GoSem.ClaimSeven
namespace Go.Proofs.YtecjngodfciokaaGreatDoor
namespace Rows

/-- THE TIED CARD OF 'stairwelllaw26.DraftPlays'. -/
def draftPlaysCard : Claim7 := { stood := { row := draftPlaysRow, standIns := [], harness := (true, "f76e4ac3546072d23a6e2e3e3f14d79f2e4b6328ce4969488c9b196cb282daa0"), looks := false }, kinds := [], alts := [], laidByText := true, laidKinds := [.data, .pinned], laidTests := true, laidLooks := .later }
def DraftPlaysCardSaid : Prop := Claim7.holds Tryz.pinned (.plain (OpenSpec.ofChange draftPlaysSpec)) draftPlaysCard

/-- THE TIED CARD OF 'stairwelllaw26.DraftParts'. -/
def draftPartsCard : Claim7 := { stood := { row := draftPartsRow, standIns := [], harness := (true, "f76e4ac3546072d23a6e2e3e3f14d79f2e4b6328ce4969488c9b196cb282daa0"), looks := false }, kinds := [], alts := [], laidByText := true, laidKinds := [.data, .pinned], laidTests := true, laidLooks := .later }
def DraftPartsCardSaid : Prop := Claim7.holds Tryz.pinned (.plain (OpenSpec.ofChange draftPartsSpec)) draftPartsCard

/-- THE TIED CARD OF 'stairwelllaw27.ChansCredit'. -/
def chansCreditCard : Claim7 := { stood := { row := chansCreditRow, standIns := [], harness := (true, "f76e4ac3546072d23a6e2e3e3f14d79f2e4b6328ce4969488c9b196cb282daa0"), looks := false }, kinds := [], alts := [], laidByText := true, laidKinds := [.data, .pinned], laidTests := true, laidLooks := .later }
def ChansCreditCardSaid : Prop := Claim7.holds Tryz.pinned (.plain (OpenSpec.ofChange chansCreditSpec)) chansCreditCard

/-- THE SECOND FORM's CARD OF 'stairwelllaw26.DraftPlays'. -/
def draftPlaysUptoCard : Claim7 := { stood := { row := draftPlaysUptoRow, standIns := [], harness := (true, "f76e4ac3546072d23a6e2e3e3f14d79f2e4b6328ce4969488c9b196cb282daa0"), looks := false }, kinds := [], alts := [], laidByText := true, laidKinds := [.data, .pinned], laidTests := true, laidLooks := .later }
def DraftPlaysUptoCardSaid : Prop := Claim7.holds Tryz.pinned (.plain (OpenSpec.upto draftPlaysSpec)) draftPlaysUptoCard

/-- THE SECOND FORM's CARD OF 'stairwelllaw26.DraftParts'. -/
def draftPartsUptoCard : Claim7 := { stood := { row := draftPartsUptoRow, standIns := [], harness := (true, "f76e4ac3546072d23a6e2e3e3f14d79f2e4b6328ce4969488c9b196cb282daa0"), looks := false }, kinds := [], alts := [], laidByText := true, laidKinds := [.data, .pinned], laidTests := true, laidLooks := .later }
def DraftPartsUptoCardSaid : Prop := Claim7.holds Tryz.pinned (.plain (OpenSpec.upto draftPartsSpec)) draftPartsUptoCard

/-- THE SECOND FORM's CARD OF 'stairwelllaw27.ChansCredit'. -/
def chansCreditUptoCard : Claim7 := { stood := { row := chansCreditUptoRow, standIns := [], harness := (true, "f76e4ac3546072d23a6e2e3e3f14d79f2e4b6328ce4969488c9b196cb282daa0"), looks := false }, kinds := [], alts := [], laidByText := true, laidKinds := [.data, .pinned], laidTests := true, laidLooks := .later }
def ChansCreditUptoCardSaid : Prop := Claim7.holds Tryz.pinned (.plain (OpenSpec.upto chansCreditSpec)) chansCreditUptoCard
end Rows
end Go.Proofs.YtecjngodfciokaaGreatDoor
