/-
  DERIVED. GIVEN WITH THE SEED: THE CARDS: each row of YtaikigponkjkgaaGreatDoorRows.lean that lists a variable, with what it lists TIED to the program's text (the seventh form; the later family's looks); each row that meets fmt, with fmt's text TOLD by the authors' own Lean function (tested against real Go, not proved from fmt's source: count such statements apart). THE CARD IS WHAT COUNTS. Prove the row's statement (the work); the ties are given (YtaikigponkjkgaaGreatDoorTie.lean); close each card by the builder's one call (the guide's Derived/Test/ToyasCard.lean, 'card_holds'). Laid BY PROGRAM, IN A SANDBOX (cutbox-door.mjs). By AI agents, Wed Nov 11 2026. No macro, syntax, notation, axiom, sorry.
-/
import Derived.Test.YtaikigponkjkgaaGreatDoorRows
import GoSem.ClaimSeven
namespace Go.Proofs.YtaikigponkjkgaaGreatDoor
namespace Rows

/-- THE TIED CARD OF 'stairwelllaw22.DeedPacks'. -/
def deedPacksCard : Claim7 := { stood := { row := deedPacksRow, standIns := [], harness := (true, "5464d74f9f968dd3da53fe5c30341ea39379f2b0aa1d8d67ed5efd442babd36e"), looks := false }, kinds := [], alts := [], laidByText := true, laidKinds := [.data, .pinned], laidTests := true, laidLooks := .later }
def DeedPacksCardSaid : Prop := Claim7.holds Tryz.pinned (.plain (OpenSpec.ofChange deedPacksSpec)) deedPacksCard

/-- THE TIED CARD OF 'stairwelllaw22.DeedReads'. -/
def deedReadsCard : Claim7 := { stood := { row := deedReadsRow, standIns := [], harness := (true, "5464d74f9f968dd3da53fe5c30341ea39379f2b0aa1d8d67ed5efd442babd36e"), looks := false }, kinds := [], alts := [], laidByText := true, laidKinds := [.data, .pinned], laidTests := true, laidLooks := .later }
def DeedReadsCardSaid : Prop := Claim7.holds Tryz.pinned (.plain (OpenSpec.ofChange deedReadsSpec)) deedReadsCard

/-- THE TIED CARD OF 'stairwelllaw22.DeedShort'. -/
def deedShortCard : Claim7 := { stood := { row := deedShortRow, standIns := [], harness := (true, "5464d74f9f968dd3da53fe5c30341ea39379f2b0aa1d8d67ed5efd442babd36e"), looks := false }, kinds := [], alts := [], laidByText := true, laidKinds := [.data, .pinned], laidTests := true, laidLooks := .later }
def DeedShortCardSaid : Prop := Claim7.holds Tryz.pinned (.plain (OpenSpec.ofChange deedShortSpec)) deedShortCard

/-- THE SECOND FORM's CARD OF 'stairwelllaw22.DeedPacks'. -/
def deedPacksUptoCard : Claim7 := { stood := { row := deedPacksUptoRow, standIns := [], harness := (true, "5464d74f9f968dd3da53fe5c30341ea39379f2b0aa1d8d67ed5efd442babd36e"), looks := false }, kinds := [], alts := [], laidByText := true, laidKinds := [.data, .pinned], laidTests := true, laidLooks := .later }
def DeedPacksUptoCardSaid : Prop := Claim7.holds Tryz.pinned (.plain (OpenSpec.upto deedPacksSpec)) deedPacksUptoCard

/-- THE SECOND FORM's CARD OF 'stairwelllaw22.DeedReads'. -/
def deedReadsUptoCard : Claim7 := { stood := { row := deedReadsUptoRow, standIns := [], harness := (true, "5464d74f9f968dd3da53fe5c30341ea39379f2b0aa1d8d67ed5efd442babd36e"), looks := false }, kinds := [], alts := [], laidByText := true, laidKinds := [.data, .pinned], laidTests := true, laidLooks := .later }
def DeedReadsUptoCardSaid : Prop := Claim7.holds Tryz.pinned (.plain (OpenSpec.upto deedReadsSpec)) deedReadsUptoCard

/-- THE SECOND FORM's CARD OF 'stairwelllaw22.DeedShort'. -/
def deedShortUptoCard : Claim7 := { stood := { row := deedShortUptoRow, standIns := [], harness := (true, "5464d74f9f968dd3da53fe5c30341ea39379f2b0aa1d8d67ed5efd442babd36e"), looks := false }, kinds := [], alts := [], laidByText := true, laidKinds := [.data, .pinned], laidTests := true, laidLooks := .later }
def DeedShortUptoCardSaid : Prop := Claim7.holds Tryz.pinned (.plain (OpenSpec.upto deedShortSpec)) deedShortUptoCard
end Rows
end Go.Proofs.YtaikigponkjkgaaGreatDoor
