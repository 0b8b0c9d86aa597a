/-
  DERIVED. GIVEN WITH THE SEED: THE CARDS: each row of YtecgedbabcdfkaaDoorRows.lean that lists a variable, with what it lists TIED to the program's text (the seventh form; the later family's looks); each row that meets fmt, with fmt's text TOLD by the authors' own Lean function (tested against real Go, not proved from fmt's source: count such statements apart). THE CARD IS WHAT COUNTS. Prove the row's statement (the work); the ties are given (YtecgedbabcdfkaaDoorTie.lean); close each card by the builder's one call (the guide's Derived/Test/ToyasCard.lean, 'card_holds'). Laid BY PROGRAM, IN A SANDBOX (cutbox-door.mjs). By AI agents, Wed Nov 11 2026. No macro, syntax, notation, axiom, sorry.
-/
import Derived.Test.YtecgedbabcdfkaaDoorRows
import GoSem.ClaimSeven
namespace Go.Proofs.YtecgedbabcdfkaaDoor
namespace Rows

/-- THE TIED CARD OF 'stairwelllaw07.FrameBytes'. -/
def frameBytesCard : Claim7 := { stood := { row := frameBytesRow, standIns := [], harness := (true, "625b229acff635f8ad451e690dc542a320e644b28cd06b13a230f71a521befcd"), looks := false }, kinds := [], alts := [], laidByText := true, laidKinds := [.data], laidTests := true, laidLooks := .later }
def FrameBytesCardSaid : Prop := Claim7.holds Tryd.pinned (.plain (OpenSpec.ofChange frameBytesSpec)) frameBytesCard

/-- THE TIED CARD OF 'stairwelllaw07.FrameParses'. -/
def frameParsesCard : Claim7 := { stood := { row := frameParsesRow, standIns := [], harness := (true, "625b229acff635f8ad451e690dc542a320e644b28cd06b13a230f71a521befcd"), looks := false }, kinds := [], alts := [], laidByText := true, laidKinds := [.data], laidTests := true, laidLooks := .later }
def FrameParsesCardSaid : Prop := Claim7.holds Tryd.pinned (.plain (OpenSpec.ofChange frameParsesSpec)) frameParsesCard

/-- THE TIED CARD OF 'stairwelllaw07.FrameShort'. -/
def frameShortCard : Claim7 := { stood := { row := frameShortRow, standIns := [], harness := (true, "625b229acff635f8ad451e690dc542a320e644b28cd06b13a230f71a521befcd"), looks := false }, kinds := [], alts := [], laidByText := true, laidKinds := [.data], laidTests := true, laidLooks := .later }
def FrameShortCardSaid : Prop := Claim7.holds Tryd.pinned (.plain (OpenSpec.ofChange frameShortSpec)) frameShortCard

/-- THE TIED CARD OF 'stairwelllaw07.FrameTurned'. -/
def frameTurnedCard : Claim7 := { stood := { row := frameTurnedRow, standIns := [], harness := (true, "625b229acff635f8ad451e690dc542a320e644b28cd06b13a230f71a521befcd"), looks := false }, kinds := [], alts := [], laidByText := true, laidKinds := [.data], laidTests := true, laidLooks := .later }
def FrameTurnedCardSaid : Prop := Claim7.holds Tryd.pinned (.plain (OpenSpec.ofChange frameTurnedSpec)) frameTurnedCard

/-- THE TIED CARD OF 'stairwelllaw08.FeedTakes'. -/
def feedTakesCard : Claim7 := { stood := { row := feedTakesRow, standIns := [], harness := (true, "625b229acff635f8ad451e690dc542a320e644b28cd06b13a230f71a521befcd"), looks := false }, kinds := [], alts := [], laidByText := true, laidKinds := [.data], laidTests := true, laidLooks := .later }
def FeedTakesCardSaid : Prop := Claim7.holds Tryd.pinned (.plain (OpenSpec.ofChange feedTakesSpec)) feedTakesCard

/-- THE TIED CARD OF 'stairwelllaw08.FeedCuts'. -/
def feedCutsCard : Claim7 := { stood := { row := feedCutsRow, standIns := [], harness := (true, "625b229acff635f8ad451e690dc542a320e644b28cd06b13a230f71a521befcd"), looks := false }, kinds := [], alts := [], laidByText := true, laidKinds := [.data], laidTests := true, laidLooks := .later }
def FeedCutsCardSaid : Prop := Claim7.holds Tryd.pinned (.plain (OpenSpec.ofChange feedCutsSpec)) feedCutsCard

/-- THE TIED CARD OF 'stairwelllaw08.FeedFrames'. -/
def feedFramesCard : Claim7 := { stood := { row := feedFramesRow, standIns := [], harness := (true, "625b229acff635f8ad451e690dc542a320e644b28cd06b13a230f71a521befcd"), looks := false }, kinds := [], alts := [], laidByText := true, laidKinds := [.data], laidTests := true, laidLooks := .later }
def FeedFramesCardSaid : Prop := Claim7.holds Tryd.pinned (.plain (OpenSpec.ofChange feedFramesSpec)) feedFramesCard

/-- THE SECOND FORM's CARD OF 'stairwelllaw07.FrameBytes'. -/
def frameBytesUptoCard : Claim7 := { stood := { row := frameBytesUptoRow, standIns := [], harness := (true, "625b229acff635f8ad451e690dc542a320e644b28cd06b13a230f71a521befcd"), looks := false }, kinds := [], alts := [], laidByText := true, laidKinds := [.data], laidTests := true, laidLooks := .later }
def FrameBytesUptoCardSaid : Prop := Claim7.holds Tryd.pinned (.plain (OpenSpec.upto frameBytesSpec)) frameBytesUptoCard

/-- THE SECOND FORM's CARD OF 'stairwelllaw07.FrameParses'. -/
def frameParsesUptoCard : Claim7 := { stood := { row := frameParsesUptoRow, standIns := [], harness := (true, "625b229acff635f8ad451e690dc542a320e644b28cd06b13a230f71a521befcd"), looks := false }, kinds := [], alts := [], laidByText := true, laidKinds := [.data], laidTests := true, laidLooks := .later }
def FrameParsesUptoCardSaid : Prop := Claim7.holds Tryd.pinned (.plain (OpenSpec.upto frameParsesSpec)) frameParsesUptoCard

/-- THE SECOND FORM's CARD OF 'stairwelllaw07.FrameShort'. -/
def frameShortUptoCard : Claim7 := { stood := { row := frameShortUptoRow, standIns := [], harness := (true, "625b229acff635f8ad451e690dc542a320e644b28cd06b13a230f71a521befcd"), looks := false }, kinds := [], alts := [], laidByText := true, laidKinds := [.data], laidTests := true, laidLooks := .later }
def FrameShortUptoCardSaid : Prop := Claim7.holds Tryd.pinned (.plain (OpenSpec.upto frameShortSpec)) frameShortUptoCard

/-- THE SECOND FORM's CARD OF 'stairwelllaw07.FrameTurned'. -/
def frameTurnedUptoCard : Claim7 := { stood := { row := frameTurnedUptoRow, standIns := [], harness := (true, "625b229acff635f8ad451e690dc542a320e644b28cd06b13a230f71a521befcd"), looks := false }, kinds := [], alts := [], laidByText := true, laidKinds := [.data], laidTests := true, laidLooks := .later }
def FrameTurnedUptoCardSaid : Prop := Claim7.holds Tryd.pinned (.plain (OpenSpec.upto frameTurnedSpec)) frameTurnedUptoCard

/-- THE SECOND FORM's CARD OF 'stairwelllaw08.FeedTakes'. -/
def feedTakesUptoCard : Claim7 := { stood := { row := feedTakesUptoRow, standIns := [], harness := (true, "625b229acff635f8ad451e690dc542a320e644b28cd06b13a230f71a521befcd"), looks := false }, kinds := [], alts := [], laidByText := true, laidKinds := [.data], laidTests := true, laidLooks := .later }
def FeedTakesUptoCardSaid : Prop := Claim7.holds Tryd.pinned (.plain (OpenSpec.upto feedTakesSpec)) feedTakesUptoCard

/-- THE SECOND FORM's CARD OF 'stairwelllaw08.FeedCuts'. -/
def feedCutsUptoCard : Claim7 := { stood := { row := feedCutsUptoRow, standIns := [], harness := (true, "625b229acff635f8ad451e690dc542a320e644b28cd06b13a230f71a521befcd"), looks := false }, kinds := [], alts := [], laidByText := true, laidKinds := [.data], laidTests := true, laidLooks := .later }
def FeedCutsUptoCardSaid : Prop := Claim7.holds Tryd.pinned (.plain (OpenSpec.upto feedCutsSpec)) feedCutsUptoCard

/-- THE SECOND FORM's CARD OF 'stairwelllaw08.FeedFrames'. -/
def feedFramesUptoCard : Claim7 := { stood := { row := feedFramesUptoRow, standIns := [], harness := (true, "625b229acff635f8ad451e690dc542a320e644b28cd06b13a230f71a521befcd"), looks := false }, kinds := [], alts := [], laidByText := true, laidKinds := [.data], laidTests := true, laidLooks := .later }
def FeedFramesUptoCardSaid : Prop := Claim7.holds Tryd.pinned (.plain (OpenSpec.upto feedFramesSpec)) feedFramesUptoCard
end Rows
end Go.Proofs.YtecgedbabcdfkaaDoor
