/-
  DERIVED. GIVEN WITH THE SEED: THE CARDS: each row of YtgponfdcagnhhaaGreatDoorRows.lean that lists a variable, with what it lists TIED to the program's text (the seventh form; the later family's looks); each row that meets fmt, with fmt's text TOLD by the authors' own Lean function (tested against real Go, not proved from fmt's source: count such statements apart). THE CARD IS WHAT COUNTS. Prove the row's statement (the work); the ties are given (YtgponfdcagnhhaaGreatDoorTie.lean); close each card by the builder's one call (the guide's Derived/Test/ToyasCard.lean, 'card_holds'). Laid BY PROGRAM, IN A SANDBOX (cutbox-door.mjs). By AI agents, Wed Nov 11 2026. No macro, syntax, notation, axiom, sorry.
-/
import Derived.Test.YtgponfdcagnhhaaGreatDoorRows
import GoSem.ClaimSeven
namespace Go.Proofs.YtgponfdcagnhhaaGreatDoor
namespace Rows

/-- THE TIED CARD OF 'stairwelllaw22.DeedBytes'. -/
def deedBytesCard : Claim7 := { stood := { row := deedBytesRow, standIns := [], harness := (true, "79d132181d4fe7380403afacd46c3f8d563ca9a18efca9a7c572137bec8a6e04"), looks := false }, kinds := [], alts := [], laidByText := true, laidKinds := [.data, .pinned], laidTests := true, laidLooks := .later }
def DeedBytesCardSaid : Prop := Claim7.holds Tryz.pinned (.plain (OpenSpec.ofChange deedBytesSpec)) deedBytesCard

/-- THE TIED CARD OF 'stairwelllaw22.DeedSame'. -/
def deedSameCard : Claim7 := { stood := { row := deedSameRow, standIns := [], harness := (true, "79d132181d4fe7380403afacd46c3f8d563ca9a18efca9a7c572137bec8a6e04"), looks := false }, kinds := [], alts := [], laidByText := true, laidKinds := [.data, .pinned], laidTests := true, laidLooks := .later }
def DeedSameCardSaid : Prop := Claim7.holds Tryz.pinned (.plain (OpenSpec.ofChange deedSameSpec)) deedSameCard

/-- THE TIED CARD OF 'stairwelllaw26.DraftLives'. -/
def draftLivesCard : Claim7 := { stood := { row := draftLivesRow, standIns := [], harness := (true, "79d132181d4fe7380403afacd46c3f8d563ca9a18efca9a7c572137bec8a6e04"), looks := false }, kinds := [], alts := [], laidByText := true, laidKinds := [.data, .pinned], laidTests := true, laidLooks := .later }
def DraftLivesCardSaid : Prop := Claim7.holds Tryz.pinned (.plain (OpenSpec.ofChange draftLivesSpec)) draftLivesCard

/-- THE SECOND FORM's CARD OF 'stairwelllaw22.DeedBytes'. -/
def deedBytesUptoCard : Claim7 := { stood := { row := deedBytesUptoRow, standIns := [], harness := (true, "79d132181d4fe7380403afacd46c3f8d563ca9a18efca9a7c572137bec8a6e04"), looks := false }, kinds := [], alts := [], laidByText := true, laidKinds := [.data, .pinned], laidTests := true, laidLooks := .later }
def DeedBytesUptoCardSaid : Prop := Claim7.holds Tryz.pinned (.plain (OpenSpec.upto deedBytesSpec)) deedBytesUptoCard

/-- THE SECOND FORM's CARD OF 'stairwelllaw22.DeedSame'. -/
def deedSameUptoCard : Claim7 := { stood := { row := deedSameUptoRow, standIns := [], harness := (true, "79d132181d4fe7380403afacd46c3f8d563ca9a18efca9a7c572137bec8a6e04"), looks := false }, kinds := [], alts := [], laidByText := true, laidKinds := [.data, .pinned], laidTests := true, laidLooks := .later }
def DeedSameUptoCardSaid : Prop := Claim7.holds Tryz.pinned (.plain (OpenSpec.upto deedSameSpec)) deedSameUptoCard

/-- THE SECOND FORM's CARD OF 'stairwelllaw26.DraftLives'. -/
def draftLivesUptoCard : Claim7 := { stood := { row := draftLivesUptoRow, standIns := [], harness := (true, "79d132181d4fe7380403afacd46c3f8d563ca9a18efca9a7c572137bec8a6e04"), looks := false }, kinds := [], alts := [], laidByText := true, laidKinds := [.data, .pinned], laidTests := true, laidLooks := .later }
def DraftLivesUptoCardSaid : Prop := Claim7.holds Tryz.pinned (.plain (OpenSpec.upto draftLivesSpec)) draftLivesUptoCard
end Rows
end Go.Proofs.YtgponfdcagnhhaaGreatDoor
