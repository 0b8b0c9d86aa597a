/-
  DERIVED. GIVEN WITH THE SEED: THE CARDS: each row of YtnamkglflhkckaaGreatDoorRows.lean that lists a variable, with what it lists TIED to the program's text (the seventh form; the later family's looks); each row that meets fmt, with fmt's text TOLD by the authors' own Lean function (tested against real Go, not proved from fmt's source: count such statements apart). THE CARD IS WHAT COUNTS. Prove the row's statement (the work); the ties are given (YtnamkglflhkckaaGreatDoorTie.lean); close each card by the builder's one call (the guide's Derived/Test/ToyasCard.lean, 'card_holds'). Laid BY PROGRAM, IN A SANDBOX (cutbox-door.mjs). By AI agents, Wed Nov 11 2026. No macro, syntax, notation, axiom, sorry.
-/
import Derived.Test.YtnamkglflhkckaaGreatDoorRows
import GoSem.ClaimSeven
namespace Go.Proofs.YtnamkglflhkckaaGreatDoor
namespace Rows

/-- THE TIED CARD OF 'stairwelllaw11.MethodFrames'. -/
def methodFramesCard : Claim7 := { stood := { row := methodFramesRow, standIns := [], harness := (true, "b24f6b3a8dc6a5cdecf676785ca83053723c883ae2a0e2e1b354a373010a2180"), looks := false }, kinds := [], alts := [], laidByText := true, laidKinds := [.data, .data, .pinned], laidTests := true, laidLooks := .later }
def MethodFramesCardSaid : Prop := Claim7.holds Tryz.pinned (.plain (OpenSpec.ofChange methodFramesSpec)) methodFramesCard

/-- THE TIED CARD OF 'stairwelllaw11.MethodReads'. -/
def methodReadsCard : Claim7 := { stood := { row := methodReadsRow, standIns := [], harness := (true, "b24f6b3a8dc6a5cdecf676785ca83053723c883ae2a0e2e1b354a373010a2180"), looks := false }, kinds := [], alts := [], laidByText := true, laidKinds := [.data, .data, .pinned], laidTests := true, laidLooks := .later }
def MethodReadsCardSaid : Prop := Claim7.holds Tryz.pinned (.plain (OpenSpec.ofChange methodReadsSpec)) methodReadsCard

/-- THE TIED CARD OF 'stairwelllaw12.ReplyBytes'. -/
def replyBytesCard : Claim7 := { stood := { row := replyBytesRow, standIns := [], harness := (true, "b24f6b3a8dc6a5cdecf676785ca83053723c883ae2a0e2e1b354a373010a2180"), looks := false }, kinds := [], alts := [], laidByText := true, laidKinds := [.data, .data, .pinned], laidTests := true, laidLooks := .later }
def ReplyBytesCardSaid : Prop := Claim7.holds Tryz.pinned (.plain (OpenSpec.ofChange replyBytesSpec)) replyBytesCard

/-- THE TIED CARD OF 'stairwelllaw14.RoutePlays'. -/
def routePlaysCard : Claim7 := { stood := { row := routePlaysRow, standIns := [], harness := (true, "b24f6b3a8dc6a5cdecf676785ca83053723c883ae2a0e2e1b354a373010a2180"), looks := false }, kinds := [], alts := [], laidByText := true, laidKinds := [.data, .pinned], laidTests := true, laidLooks := .later }
def RoutePlaysCardSaid : Prop := Claim7.holds Tryz.pinned (.plain (OpenSpec.ofChange routePlaysSpec)) routePlaysCard

/-- THE TIED CARD OF 'stairwelllaw14.RouteLeads'. -/
def routeLeadsCard : Claim7 := { stood := { row := routeLeadsRow, standIns := [], harness := (true, "b24f6b3a8dc6a5cdecf676785ca83053723c883ae2a0e2e1b354a373010a2180"), looks := false }, kinds := [], alts := [], laidByText := true, laidKinds := [.data, .pinned], laidTests := true, laidLooks := .later }
def RouteLeadsCardSaid : Prop := Claim7.holds Tryz.pinned (.plain (OpenSpec.ofChange routeLeadsSpec)) routeLeadsCard

/-- THE TIED CARD OF 'stairwelllaw14.RouteOwn'. -/
def routeOwnCard : Claim7 := { stood := { row := routeOwnRow, standIns := [], harness := (true, "b24f6b3a8dc6a5cdecf676785ca83053723c883ae2a0e2e1b354a373010a2180"), looks := false }, kinds := [], alts := [], laidByText := true, laidKinds := [.data, .pinned], laidTests := true, laidLooks := .later }
def RouteOwnCardSaid : Prop := Claim7.holds Tryz.pinned (.plain (OpenSpec.ofChange routeOwnSpec)) routeOwnCard

/-- THE SECOND FORM's CARD OF 'stairwelllaw11.MethodFrames'. -/
def methodFramesUptoCard : Claim7 := { stood := { row := methodFramesUptoRow, standIns := [], harness := (true, "b24f6b3a8dc6a5cdecf676785ca83053723c883ae2a0e2e1b354a373010a2180"), looks := false }, kinds := [], alts := [], laidByText := true, laidKinds := [.data, .data, .pinned], laidTests := true, laidLooks := .later }
def MethodFramesUptoCardSaid : Prop := Claim7.holds Tryz.pinned (.plain (OpenSpec.upto methodFramesSpec)) methodFramesUptoCard

/-- THE SECOND FORM's CARD OF 'stairwelllaw11.MethodReads'. -/
def methodReadsUptoCard : Claim7 := { stood := { row := methodReadsUptoRow, standIns := [], harness := (true, "b24f6b3a8dc6a5cdecf676785ca83053723c883ae2a0e2e1b354a373010a2180"), looks := false }, kinds := [], alts := [], laidByText := true, laidKinds := [.data, .data, .pinned], laidTests := true, laidLooks := .later }
def MethodReadsUptoCardSaid : Prop := Claim7.holds Tryz.pinned (.plain (OpenSpec.upto methodReadsSpec)) methodReadsUptoCard

/-- THE SECOND FORM's CARD OF 'stairwelllaw12.ReplyBytes'. -/
def replyBytesUptoCard : Claim7 := { stood := { row := replyBytesUptoRow, standIns := [], harness := (true, "b24f6b3a8dc6a5cdecf676785ca83053723c883ae2a0e2e1b354a373010a2180"), looks := false }, kinds := [], alts := [], laidByText := true, laidKinds := [.data, .data, .pinned], laidTests := true, laidLooks := .later }
def ReplyBytesUptoCardSaid : Prop := Claim7.holds Tryz.pinned (.plain (OpenSpec.upto replyBytesSpec)) replyBytesUptoCard

/-- THE SECOND FORM's CARD OF 'stairwelllaw14.RoutePlays'. -/
def routePlaysUptoCard : Claim7 := { stood := { row := routePlaysUptoRow, standIns := [], harness := (true, "b24f6b3a8dc6a5cdecf676785ca83053723c883ae2a0e2e1b354a373010a2180"), looks := false }, kinds := [], alts := [], laidByText := true, laidKinds := [.data, .pinned], laidTests := true, laidLooks := .later }
def RoutePlaysUptoCardSaid : Prop := Claim7.holds Tryz.pinned (.plain (OpenSpec.upto routePlaysSpec)) routePlaysUptoCard

/-- THE SECOND FORM's CARD OF 'stairwelllaw14.RouteLeads'. -/
def routeLeadsUptoCard : Claim7 := { stood := { row := routeLeadsUptoRow, standIns := [], harness := (true, "b24f6b3a8dc6a5cdecf676785ca83053723c883ae2a0e2e1b354a373010a2180"), looks := false }, kinds := [], alts := [], laidByText := true, laidKinds := [.data, .pinned], laidTests := true, laidLooks := .later }
def RouteLeadsUptoCardSaid : Prop := Claim7.holds Tryz.pinned (.plain (OpenSpec.upto routeLeadsSpec)) routeLeadsUptoCard

/-- THE SECOND FORM's CARD OF 'stairwelllaw14.RouteOwn'. -/
def routeOwnUptoCard : Claim7 := { stood := { row := routeOwnUptoRow, standIns := [], harness := (true, "b24f6b3a8dc6a5cdecf676785ca83053723c883ae2a0e2e1b354a373010a2180"), looks := false }, kinds := [], alts := [], laidByText := true, laidKinds := [.data, .pinned], laidTests := true, laidLooks := .later }
def RouteOwnUptoCardSaid : Prop := Claim7.holds Tryz.pinned (.plain (OpenSpec.upto routeOwnSpec)) routeOwnUptoCard
end Rows
end Go.Proofs.YtnamkglflhkckaaGreatDoor
