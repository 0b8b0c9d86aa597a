/-
  DERIVED. GIVEN WITH THE SEED: THE CARDS: each row of YtallnjhjhoaflaaGreatDoorRows.lean that lists a variable, with what it lists TIED to the program's text (the seventh form; the later family's looks); each row that meets fmt, with fmt's text TOLD by the authors' own Lean function (tested against real Go, not proved from fmt's source: count such statements apart). THE CARD IS WHAT COUNTS. Prove the row's statement (the work); the ties are given (YtallnjhjhoaflaaGreatDoorTie.lean); close each card by the builder's one call (the guide's Derived/Test/ToyasCard.lean, 'card_holds'). Laid BY PROGRAM, IN A SANDBOX (cutbox-door.mjs). By AI agents, Wed Nov 11 2026. No macro, syntax, notation, axiom, sorry.
-/
import Derived.Test.YtallnjhjhoaflaaGreatDoorRows
import GoSem.ClaimSeven
namespace Go.Proofs.YtallnjhjhoaflaaGreatDoor
namespace Rows

/-- THE TIED CARD OF 'stairwelllaw26.DraftPlays'. -/
def draftPlaysCard : Claim7 := { stood := { row := draftPlaysRow, standIns := [], harness := (true, "21e01c148bdd18fecf90606a6805a0efb86250dbb905814f05ff4ac2b848f280"), looks := false }, kinds := [], alts := [], laidByText := true, laidKinds := [.data, .pinned], laidTests := true, laidLooks := .later }
def DraftPlaysCardSaid : Prop := Claim7.holds Tryz.pinned (.plain (OpenSpec.ofChange draftPlaysSpec)) draftPlaysCard

/-- THE TIED CARD OF 'stairwelllaw26.DraftParts'. -/
def draftPartsCard : Claim7 := { stood := { row := draftPartsRow, standIns := [], harness := (true, "21e01c148bdd18fecf90606a6805a0efb86250dbb905814f05ff4ac2b848f280"), looks := false }, kinds := [], alts := [], laidByText := true, laidKinds := [.data, .pinned], laidTests := true, laidLooks := .later }
def DraftPartsCardSaid : Prop := Claim7.holds Tryz.pinned (.plain (OpenSpec.ofChange draftPartsSpec)) draftPartsCard

/-- THE TIED CARD OF 'stairwelllaw26.DraftFull'. -/
def draftFullCard : Claim7 := { stood := { row := draftFullRow, standIns := [], harness := (true, "21e01c148bdd18fecf90606a6805a0efb86250dbb905814f05ff4ac2b848f280"), looks := false }, kinds := [], alts := [], laidByText := true, laidKinds := [.data, .pinned], laidTests := true, laidLooks := .later }
def DraftFullCardSaid : Prop := Claim7.holds Tryz.pinned (.plain (OpenSpec.ofChange draftFullSpec)) draftFullCard

/-- THE SECOND FORM's CARD OF 'stairwelllaw26.DraftPlays'. -/
def draftPlaysUptoCard : Claim7 := { stood := { row := draftPlaysUptoRow, standIns := [], harness := (true, "21e01c148bdd18fecf90606a6805a0efb86250dbb905814f05ff4ac2b848f280"), looks := false }, kinds := [], alts := [], laidByText := true, laidKinds := [.data, .pinned], laidTests := true, laidLooks := .later }
def DraftPlaysUptoCardSaid : Prop := Claim7.holds Tryz.pinned (.plain (OpenSpec.upto draftPlaysSpec)) draftPlaysUptoCard

/-- THE SECOND FORM's CARD OF 'stairwelllaw26.DraftParts'. -/
def draftPartsUptoCard : Claim7 := { stood := { row := draftPartsUptoRow, standIns := [], harness := (true, "21e01c148bdd18fecf90606a6805a0efb86250dbb905814f05ff4ac2b848f280"), looks := false }, kinds := [], alts := [], laidByText := true, laidKinds := [.data, .pinned], laidTests := true, laidLooks := .later }
def DraftPartsUptoCardSaid : Prop := Claim7.holds Tryz.pinned (.plain (OpenSpec.upto draftPartsSpec)) draftPartsUptoCard

/-- THE SECOND FORM's CARD OF 'stairwelllaw26.DraftFull'. -/
def draftFullUptoCard : Claim7 := { stood := { row := draftFullUptoRow, standIns := [], harness := (true, "21e01c148bdd18fecf90606a6805a0efb86250dbb905814f05ff4ac2b848f280"), looks := false }, kinds := [], alts := [], laidByText := true, laidKinds := [.data, .pinned], laidTests := true, laidLooks := .later }
def DraftFullUptoCardSaid : Prop := Claim7.holds Tryz.pinned (.plain (OpenSpec.upto draftFullSpec)) draftFullUptoCard
end Rows
end Go.Proofs.YtallnjhjhoaflaaGreatDoor
