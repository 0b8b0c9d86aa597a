/-
  DERIVED. GIVEN WITH THE SEED: THE CARDS: each row of YtabnkbdbbneihaaGreatDoorRows.lean that lists a variable, with what it lists TIED to the program's text (the seventh form; the later family's looks); each row that meets fmt, with fmt's text TOLD by the authors' own Lean function (tested against real Go, not proved from fmt's source: count such statements apart). THE CARD IS WHAT COUNTS. Prove the row's statement (the work); the ties are given (YtabnkbdbbneihaaGreatDoorTie.lean); close each card by the builder's one call (the guide's Derived/Test/ToyasCard.lean, 'card_holds'). Laid BY PROGRAM, IN A SANDBOX (cutbox-door.mjs). By AI agents, Wed Nov 11 2026. No macro, syntax, notation, axiom, sorry.
-/
import Derived.Test.YtabnkbdbbneihaaGreatDoorRows
import GoSem.ClaimSeven
namespace Go.Proofs.YtabnkbdbbneihaaGreatDoor
namespace Rows

/-- THE TIED CARD OF 'stairwelllaw18.LineGoes'. -/
def lineGoesCard : Claim7 := { stood := { row := lineGoesRow, standIns := [], harness := (true, "ddc69500db565d321c9a19979b366084c98f3a7108f2527bc21b930270247012"), looks := false }, kinds := [], alts := [], laidByText := true, laidKinds := [.data, .pinned], laidTests := true, laidLooks := .later }
def LineGoesCardSaid : Prop := Claim7.holds Tryz.pinned (.plain (OpenSpec.ofChange lineGoesSpec)) lineGoesCard

/-- THE TIED CARD OF 'stairwelllaw18.LinePlays'. -/
def linePlaysCard : Claim7 := { stood := { row := linePlaysRow, standIns := [], harness := (true, "ddc69500db565d321c9a19979b366084c98f3a7108f2527bc21b930270247012"), looks := false }, kinds := [], alts := [], laidByText := true, laidKinds := [.data, .pinned], laidTests := true, laidLooks := .later }
def LinePlaysCardSaid : Prop := Claim7.holds Tryz.pinned (.plain (OpenSpec.ofChange linePlaysSpec)) linePlaysCard

/-- THE TIED CARD OF 'stairwelllaw20.RisePlays'. -/
def risePlaysCard : Claim7 := { stood := { row := risePlaysRow, standIns := [], harness := (true, "ddc69500db565d321c9a19979b366084c98f3a7108f2527bc21b930270247012"), looks := false }, kinds := [], alts := [], laidByText := true, laidKinds := [.data, .pinned], laidTests := true, laidLooks := .later }
def RisePlaysCardSaid : Prop := Claim7.holds Tryz.pinned (.plain (OpenSpec.ofChange risePlaysSpec)) risePlaysCard

/-- THE TIED CARD OF 'stairwelllaw20.RiseReads'. -/
def riseReadsCard : Claim7 := { stood := { row := riseReadsRow, standIns := [], harness := (true, "ddc69500db565d321c9a19979b366084c98f3a7108f2527bc21b930270247012"), looks := false }, kinds := [], alts := [], laidByText := true, laidKinds := [.data, .pinned], laidTests := true, laidLooks := .later }
def RiseReadsCardSaid : Prop := Claim7.holds Tryz.pinned (.plain (OpenSpec.ofChange riseReadsSpec)) riseReadsCard

/-- THE SECOND FORM's CARD OF 'stairwelllaw18.LineGoes'. -/
def lineGoesUptoCard : Claim7 := { stood := { row := lineGoesUptoRow, standIns := [], harness := (true, "ddc69500db565d321c9a19979b366084c98f3a7108f2527bc21b930270247012"), looks := false }, kinds := [], alts := [], laidByText := true, laidKinds := [.data, .pinned], laidTests := true, laidLooks := .later }
def LineGoesUptoCardSaid : Prop := Claim7.holds Tryz.pinned (.plain (OpenSpec.upto lineGoesSpec)) lineGoesUptoCard

/-- THE SECOND FORM's CARD OF 'stairwelllaw18.LinePlays'. -/
def linePlaysUptoCard : Claim7 := { stood := { row := linePlaysUptoRow, standIns := [], harness := (true, "ddc69500db565d321c9a19979b366084c98f3a7108f2527bc21b930270247012"), looks := false }, kinds := [], alts := [], laidByText := true, laidKinds := [.data, .pinned], laidTests := true, laidLooks := .later }
def LinePlaysUptoCardSaid : Prop := Claim7.holds Tryz.pinned (.plain (OpenSpec.upto linePlaysSpec)) linePlaysUptoCard

/-- THE SECOND FORM's CARD OF 'stairwelllaw20.RisePlays'. -/
def risePlaysUptoCard : Claim7 := { stood := { row := risePlaysUptoRow, standIns := [], harness := (true, "ddc69500db565d321c9a19979b366084c98f3a7108f2527bc21b930270247012"), looks := false }, kinds := [], alts := [], laidByText := true, laidKinds := [.data, .pinned], laidTests := true, laidLooks := .later }
def RisePlaysUptoCardSaid : Prop := Claim7.holds Tryz.pinned (.plain (OpenSpec.upto risePlaysSpec)) risePlaysUptoCard

/-- THE SECOND FORM's CARD OF 'stairwelllaw20.RiseReads'. -/
def riseReadsUptoCard : Claim7 := { stood := { row := riseReadsUptoRow, standIns := [], harness := (true, "ddc69500db565d321c9a19979b366084c98f3a7108f2527bc21b930270247012"), looks := false }, kinds := [], alts := [], laidByText := true, laidKinds := [.data, .pinned], laidTests := true, laidLooks := .later }
def RiseReadsUptoCardSaid : Prop := Claim7.holds Tryz.pinned (.plain (OpenSpec.upto riseReadsSpec)) riseReadsUptoCard
end Rows
end Go.Proofs.YtabnkbdbbneihaaGreatDoor
