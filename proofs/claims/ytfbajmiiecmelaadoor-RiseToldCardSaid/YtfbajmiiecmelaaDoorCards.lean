/-
  DERIVED. GIVEN WITH THE SEED: THE CARDS: each row of YtfbajmiiecmelaaDoorRows.lean that lists a variable, with what it lists TIED to the program's text (the seventh form; the later family's looks); each row that meets fmt, with fmt's text TOLD by the authors' own Lean function (tested against real Go, not proved from fmt's source: count such statements apart). THE CARD IS WHAT COUNTS. Prove the row's statement (the work); the ties are given (YtfbajmiiecmelaaDoorTie.lean); close each card by the builder's one call (the guide's Derived/Test/ToyasCard.lean, 'card_holds'). Laid BY PROGRAM, IN A SANDBOX (cutbox-door.mjs). By AI agents, Wed Nov 11 2026. No macro, syntax, notation, axiom, sorry.
-/
import Derived.Test.YtfbajmiiecmelaaDoorRows
import GoSem.ClaimSeven
namespace Go.Proofs.YtfbajmiiecmelaaDoor
namespace Rows

/-- THE TIED CARD OF 'stairwelllaw20.RiseTold'. -/
def riseToldCard : Claim7 := { stood := { row := riseToldRow, standIns := [], harness := (true, "b38ba1f360507e019ccfc37a0335e4510d77715d8ba426a266f3ba193bc4b79a"), looks := false }, kinds := [], alts := [], laidByText := true, laidKinds := [.data, .pinned], laidTests := true, laidLooks := .later }
def RiseToldCardSaid : Prop := Claim7.holds Tryd.pinned (.plain (OpenSpec.ofChange riseToldSpec)) riseToldCard

/-- THE TIED CARD OF 'stairwelllaw20.RiseNumbers'. -/
def riseNumbersCard : Claim7 := { stood := { row := riseNumbersRow, standIns := [], harness := (true, "b38ba1f360507e019ccfc37a0335e4510d77715d8ba426a266f3ba193bc4b79a"), looks := false }, kinds := [], alts := [], laidByText := true, laidKinds := [.data, .pinned], laidTests := true, laidLooks := .later }
def RiseNumbersCardSaid : Prop := Claim7.holds Tryd.pinned (.plain (OpenSpec.ofChange riseNumbersSpec)) riseNumbersCard

/-- THE SECOND FORM's CARD OF 'stairwelllaw20.RiseTold'. -/
def riseToldUptoCard : Claim7 := { stood := { row := riseToldUptoRow, standIns := [], harness := (true, "b38ba1f360507e019ccfc37a0335e4510d77715d8ba426a266f3ba193bc4b79a"), looks := false }, kinds := [], alts := [], laidByText := true, laidKinds := [.data, .pinned], laidTests := true, laidLooks := .later }
def RiseToldUptoCardSaid : Prop := Claim7.holds Tryd.pinned (.plain (OpenSpec.upto riseToldSpec)) riseToldUptoCard

/-- THE SECOND FORM's CARD OF 'stairwelllaw20.RiseNumbers'. -/
def riseNumbersUptoCard : Claim7 := { stood := { row := riseNumbersUptoRow, standIns := [], harness := (true, "b38ba1f360507e019ccfc37a0335e4510d77715d8ba426a266f3ba193bc4b79a"), looks := false }, kinds := [], alts := [], laidByText := true, laidKinds := [.data, .pinned], laidTests := true, laidLooks := .later }
def RiseNumbersUptoCardSaid : Prop := Claim7.holds Tryd.pinned (.plain (OpenSpec.upto riseNumbersSpec)) riseNumbersUptoCard
end Rows
end Go.Proofs.YtfbajmiiecmelaaDoor
