/-
  DERIVED. GIVEN WITH THE SEED: THE CARDS: each row of YtopobliajgocaaaGreatDoorRows.lean that lists a variable, with what it lists TIED to the program's text (the seventh form; the later family's looks); each row that meets fmt, with fmt's text TOLD by the authors' own Lean function (tested against real Go, not proved from fmt's source: count such statements apart). THE CARD IS WHAT COUNTS. Prove the row's statement (the work); the ties are given (YtopobliajgocaaaGreatDoorTie.lean); close each card by the builder's one call (the guide's Derived/Test/ToyasCard.lean, 'card_holds'). Laid BY PROGRAM, IN A SANDBOX (cutbox-door.mjs). By AI agents, Wed Nov 11 2026. No macro, syntax, notation, axiom, sorry.
-/
import Derived.Test.YtopobliajgocaaaGreatDoorRows
import GoSem.ClaimSeven
namespace Go.Proofs.YtopobliajgocaaaGreatDoor
namespace Rows

/-- THE TIED CARD OF 'stairwelllaw14.RoutePlays'. -/
def routePlaysCard : Claim7 := { stood := { row := routePlaysRow, standIns := [], harness := (true, "161bdbb4d8cd07f755d76d58fb2d4e2b4fb01708b6955775d8b5974f2f35b3b3"), looks := false }, kinds := [], alts := [], laidByText := true, laidKinds := [.data, .pinned], laidTests := true, laidLooks := .later }
def RoutePlaysCardSaid : Prop := Claim7.holds Tryz.pinned (.plain (OpenSpec.ofChange routePlaysSpec)) routePlaysCard

/-- THE TIED CARD OF 'stairwelllaw14.RouteLeads'. -/
def routeLeadsCard : Claim7 := { stood := { row := routeLeadsRow, standIns := [], harness := (true, "161bdbb4d8cd07f755d76d58fb2d4e2b4fb01708b6955775d8b5974f2f35b3b3"), looks := false }, kinds := [], alts := [], laidByText := true, laidKinds := [.data, .pinned], laidTests := true, laidLooks := .later }
def RouteLeadsCardSaid : Prop := Claim7.holds Tryz.pinned (.plain (OpenSpec.ofChange routeLeadsSpec)) routeLeadsCard

/-- THE TIED CARD OF 'stairwelllaw14.RouteOwn'. -/
def routeOwnCard : Claim7 := { stood := { row := routeOwnRow, standIns := [], harness := (true, "161bdbb4d8cd07f755d76d58fb2d4e2b4fb01708b6955775d8b5974f2f35b3b3"), looks := false }, kinds := [], alts := [], laidByText := true, laidKinds := [.data, .pinned], laidTests := true, laidLooks := .later }
def RouteOwnCardSaid : Prop := Claim7.holds Tryz.pinned (.plain (OpenSpec.ofChange routeOwnSpec)) routeOwnCard

/-- THE SECOND FORM's CARD OF 'stairwelllaw14.RoutePlays'. -/
def routePlaysUptoCard : Claim7 := { stood := { row := routePlaysUptoRow, standIns := [], harness := (true, "161bdbb4d8cd07f755d76d58fb2d4e2b4fb01708b6955775d8b5974f2f35b3b3"), looks := false }, kinds := [], alts := [], laidByText := true, laidKinds := [.data, .pinned], laidTests := true, laidLooks := .later }
def RoutePlaysUptoCardSaid : Prop := Claim7.holds Tryz.pinned (.plain (OpenSpec.upto routePlaysSpec)) routePlaysUptoCard

/-- THE SECOND FORM's CARD OF 'stairwelllaw14.RouteLeads'. -/
def routeLeadsUptoCard : Claim7 := { stood := { row := routeLeadsUptoRow, standIns := [], harness := (true, "161bdbb4d8cd07f755d76d58fb2d4e2b4fb01708b6955775d8b5974f2f35b3b3"), looks := false }, kinds := [], alts := [], laidByText := true, laidKinds := [.data, .pinned], laidTests := true, laidLooks := .later }
def RouteLeadsUptoCardSaid : Prop := Claim7.holds Tryz.pinned (.plain (OpenSpec.upto routeLeadsSpec)) routeLeadsUptoCard

/-- THE SECOND FORM's CARD OF 'stairwelllaw14.RouteOwn'. -/
def routeOwnUptoCard : Claim7 := { stood := { row := routeOwnUptoRow, standIns := [], harness := (true, "161bdbb4d8cd07f755d76d58fb2d4e2b4fb01708b6955775d8b5974f2f35b3b3"), looks := false }, kinds := [], alts := [], laidByText := true, laidKinds := [.data, .pinned], laidTests := true, laidLooks := .later }
def RouteOwnUptoCardSaid : Prop := Claim7.holds Tryz.pinned (.plain (OpenSpec.upto routeOwnSpec)) routeOwnUptoCard
end Rows
end Go.Proofs.YtopobliajgocaaaGreatDoor
