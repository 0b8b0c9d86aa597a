/-
  DERIVED. GIVEN WITH THE SEED: THE CARDS: each row of YtaoidjjmeejbbaaDoorRows.lean that lists a variable, with what it lists TIED to the program's text (the seventh form; the later family's looks); each row that meets fmt, with fmt's text TOLD by the authors' own Lean function (tested against real Go, not proved from fmt's source: count such statements apart). THE CARD IS WHAT COUNTS. Prove the row's statement (the work); the ties are given (YtaoidjjmeejbbaaDoorTie.lean); close each card by the builder's one call (the guide's Derived/Test/ToyasCard.lean, 'card_holds'). Laid BY PROGRAM, IN A SANDBOX (cutbox-door.mjs). By AI agents, Wed Nov 11 2026. No macro, syntax, notation, axiom, sorry.
-/
import Derived.Test.YtaoidjjmeejbbaaDoorRows
import GoSem.ClaimSeven
namespace Go.Proofs.YtaoidjjmeejbbaaDoor
namespace Rows

/-- THE TIED CARD OF 'stairwelllaw11.MethodSame'. -/
def methodSameCard : Claim7 := { stood := { row := methodSameRow, standIns := [], harness := (true, "8ea4215e42005e846ccfc25604d3f8a7e0e4adf731d5143fba1a1fa99583f517"), looks := false }, kinds := [], alts := [], laidByText := true, laidKinds := [.data, .data, .pinned], laidTests := true, laidLooks := .later }
def MethodSameCardSaid : Prop := Claim7.holds Tryd.pinned (.plain (OpenSpec.ofChange methodSameSpec)) methodSameCard

/-- THE TIED CARD OF 'stairwelllaw12.ReplyFrames'. -/
def replyFramesCard : Claim7 := { stood := { row := replyFramesRow, standIns := [], harness := (true, "8ea4215e42005e846ccfc25604d3f8a7e0e4adf731d5143fba1a1fa99583f517"), looks := false }, kinds := [], alts := [], laidByText := true, laidKinds := [.data, .data, .pinned], laidTests := true, laidLooks := .later }
def ReplyFramesCardSaid : Prop := Claim7.holds Tryd.pinned (.plain (OpenSpec.ofChange replyFramesSpec)) replyFramesCard

/-- THE TIED CARD OF 'stairwelllaw12.ReplyReads'. -/
def replyReadsCard : Claim7 := { stood := { row := replyReadsRow, standIns := [], harness := (true, "8ea4215e42005e846ccfc25604d3f8a7e0e4adf731d5143fba1a1fa99583f517"), looks := false }, kinds := [], alts := [], laidByText := true, laidKinds := [.data, .data, .pinned], laidTests := true, laidLooks := .later }
def ReplyReadsCardSaid : Prop := Claim7.holds Tryd.pinned (.plain (OpenSpec.ofChange replyReadsSpec)) replyReadsCard

/-- THE TIED CARD OF 'stairwelllaw12.ReplySame'. -/
def replySameCard : Claim7 := { stood := { row := replySameRow, standIns := [], harness := (true, "8ea4215e42005e846ccfc25604d3f8a7e0e4adf731d5143fba1a1fa99583f517"), looks := false }, kinds := [], alts := [], laidByText := true, laidKinds := [.data, .data, .pinned], laidTests := true, laidLooks := .later }
def ReplySameCardSaid : Prop := Claim7.holds Tryd.pinned (.plain (OpenSpec.ofChange replySameSpec)) replySameCard

/-- THE SECOND FORM's CARD OF 'stairwelllaw11.MethodSame'. -/
def methodSameUptoCard : Claim7 := { stood := { row := methodSameUptoRow, standIns := [], harness := (true, "8ea4215e42005e846ccfc25604d3f8a7e0e4adf731d5143fba1a1fa99583f517"), looks := false }, kinds := [], alts := [], laidByText := true, laidKinds := [.data, .data, .pinned], laidTests := true, laidLooks := .later }
def MethodSameUptoCardSaid : Prop := Claim7.holds Tryd.pinned (.plain (OpenSpec.upto methodSameSpec)) methodSameUptoCard

/-- THE SECOND FORM's CARD OF 'stairwelllaw12.ReplyFrames'. -/
def replyFramesUptoCard : Claim7 := { stood := { row := replyFramesUptoRow, standIns := [], harness := (true, "8ea4215e42005e846ccfc25604d3f8a7e0e4adf731d5143fba1a1fa99583f517"), looks := false }, kinds := [], alts := [], laidByText := true, laidKinds := [.data, .data, .pinned], laidTests := true, laidLooks := .later }
def ReplyFramesUptoCardSaid : Prop := Claim7.holds Tryd.pinned (.plain (OpenSpec.upto replyFramesSpec)) replyFramesUptoCard

/-- THE SECOND FORM's CARD OF 'stairwelllaw12.ReplyReads'. -/
def replyReadsUptoCard : Claim7 := { stood := { row := replyReadsUptoRow, standIns := [], harness := (true, "8ea4215e42005e846ccfc25604d3f8a7e0e4adf731d5143fba1a1fa99583f517"), looks := false }, kinds := [], alts := [], laidByText := true, laidKinds := [.data, .data, .pinned], laidTests := true, laidLooks := .later }
def ReplyReadsUptoCardSaid : Prop := Claim7.holds Tryd.pinned (.plain (OpenSpec.upto replyReadsSpec)) replyReadsUptoCard

/-- THE SECOND FORM's CARD OF 'stairwelllaw12.ReplySame'. -/
def replySameUptoCard : Claim7 := { stood := { row := replySameUptoRow, standIns := [], harness := (true, "8ea4215e42005e846ccfc25604d3f8a7e0e4adf731d5143fba1a1fa99583f517"), looks := false }, kinds := [], alts := [], laidByText := true, laidKinds := [.data, .data, .pinned], laidTests := true, laidLooks := .later }
def ReplySameUptoCardSaid : Prop := Claim7.holds Tryd.pinned (.plain (OpenSpec.upto replySameSpec)) replySameUptoCard
end Rows
end Go.Proofs.YtaoidjjmeejbbaaDoor
