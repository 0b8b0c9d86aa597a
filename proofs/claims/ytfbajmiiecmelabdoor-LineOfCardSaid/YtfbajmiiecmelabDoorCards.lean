/-
  DERIVED. GIVEN WITH THE SEED: THE CARDS: each row of YtfbajmiiecmelabDoorRows.lean that lists a variable, with what it lists TIED to the program's text (the seventh form; the later family's looks); each row that meets fmt, with fmt's text TOLD by the authors' own Lean function (tested against real Go, not proved from fmt's source: count such statements apart). THE CARD IS WHAT COUNTS. Prove the row's statement (the work); the ties are given (YtfbajmiiecmelabDoorTie.lean); close each card by the builder's one call (the guide's Derived/Test/ToyasCard.lean, 'card_holds'). Laid BY PROGRAM, IN A SANDBOX (cutbox-door.mjs). By AI agents, Wed Nov 11 2026. No macro, syntax, notation, axiom, sorry.
-/
import Derived.Test.YtfbajmiiecmelabDoorRows
import GoSem.ClaimSeven
namespace Go.Proofs.YtfbajmiiecmelabDoor
namespace Rows

/-- THE TIED CARD OF 'stairwelllaw18.LineOf'. -/
def lineOfCard : Claim7 := { stood := { row := lineOfRow, standIns := [], harness := (true, "9b97787f192fa39ea4e2f62d7a63977ff3a504a6c846cd7d254aa684c85cc1ed"), looks := false }, kinds := [], alts := [], laidByText := true, laidKinds := [.data, .pinned], laidTests := true, laidLooks := .later }
def LineOfCardSaid : Prop := Claim7.holds Tryd.pinned (.plain (OpenSpec.ofChange lineOfSpec)) lineOfCard

/-- THE SECOND FORM's CARD OF 'stairwelllaw18.LineOf'. -/
def lineOfUptoCard : Claim7 := { stood := { row := lineOfUptoRow, standIns := [], harness := (true, "9b97787f192fa39ea4e2f62d7a63977ff3a504a6c846cd7d254aa684c85cc1ed"), looks := false }, kinds := [], alts := [], laidByText := true, laidKinds := [.data, .pinned], laidTests := true, laidLooks := .later }
def LineOfUptoCardSaid : Prop := Claim7.holds Tryd.pinned (.plain (OpenSpec.upto lineOfSpec)) lineOfUptoCard
end Rows
end Go.Proofs.YtfbajmiiecmelabDoor
