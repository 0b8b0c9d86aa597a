/-
  DERIVED. GIVEN WITH THE SEED: THE CARDS: each row of YtgaggelpjaiabaaGreatDoorRows.lean that lists a variable, with what it lists TIED to the program's text (the seventh form; the later family's looks); each row that meets fmt, with fmt's text TOLD by the authors' own Lean function (tested against real Go, not proved from fmt's source: count such statements apart). THE CARD IS WHAT COUNTS. Prove the row's statement (the work); the ties are given (YtgaggelpjaiabaaGreatDoorTie.lean); close each card by the builder's one call (the guide's Derived/Test/ToyasCard.lean, 'card_holds'). Laid BY PROGRAM, IN A SANDBOX (cutbox-door.mjs). By AI agents, Wed Nov 11 2026. No macro, syntax, notation, axiom, sorry.
-/
import Derived.Test.YtgaggelpjaiabaaGreatDoorRows
import GoSem.ClaimSeven
namespace Go.Proofs.YtgaggelpjaiabaaGreatDoor
namespace Rows

/-- THE TIED CARD OF 'stairwelllaw28.SessionGates'. -/
def sessionGatesCard : Claim7 := { stood := { row := sessionGatesRow, standIns := [], harness := (true, "d21bbe74ccb4029a242906cf6accabb219be7747acbc30d155a50149e645d458"), looks := false }, kinds := [], alts := [], laidByText := true, laidKinds := [.data, .data, .pinned], laidTests := true, laidLooks := .later }
def SessionGatesCardSaid : Prop := Claim7.holds Tryz.pinned (.plain (OpenSpec.ofChange sessionGatesSpec)) sessionGatesCard

/-- THE TIED CARD OF 'stairwelllaw28.SessionPieces'. -/
def sessionPiecesCard : Claim7 := { stood := { row := sessionPiecesRow, standIns := [], harness := (true, "d21bbe74ccb4029a242906cf6accabb219be7747acbc30d155a50149e645d458"), looks := false }, kinds := [], alts := [], laidByText := true, laidKinds := [.data, .data, .pinned], laidTests := true, laidLooks := .later }
def SessionPiecesCardSaid : Prop := Claim7.holds Tryz.pinned (.plain (OpenSpec.ofChange sessionPiecesSpec)) sessionPiecesCard

/-- THE SECOND FORM's CARD OF 'stairwelllaw28.SessionGates'. -/
def sessionGatesUptoCard : Claim7 := { stood := { row := sessionGatesUptoRow, standIns := [], harness := (true, "d21bbe74ccb4029a242906cf6accabb219be7747acbc30d155a50149e645d458"), looks := false }, kinds := [], alts := [], laidByText := true, laidKinds := [.data, .data, .pinned], laidTests := true, laidLooks := .later }
def SessionGatesUptoCardSaid : Prop := Claim7.holds Tryz.pinned (.plain (OpenSpec.upto sessionGatesSpec)) sessionGatesUptoCard

/-- THE SECOND FORM's CARD OF 'stairwelllaw28.SessionPieces'. -/
def sessionPiecesUptoCard : Claim7 := { stood := { row := sessionPiecesUptoRow, standIns := [], harness := (true, "d21bbe74ccb4029a242906cf6accabb219be7747acbc30d155a50149e645d458"), looks := false }, kinds := [], alts := [], laidByText := true, laidKinds := [.data, .data, .pinned], laidTests := true, laidLooks := .later }
def SessionPiecesUptoCardSaid : Prop := Claim7.holds Tryz.pinned (.plain (OpenSpec.upto sessionPiecesSpec)) sessionPiecesUptoCard
end Rows
end Go.Proofs.YtgaggelpjaiabaaGreatDoor
