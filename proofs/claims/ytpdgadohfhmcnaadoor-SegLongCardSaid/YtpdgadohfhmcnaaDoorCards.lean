/-
  DERIVED. GIVEN WITH THE SEED: THE CARDS: each row of YtpdgadohfhmcnaaDoorRows.lean that lists a variable, with what it lists TIED to the program's text (the seventh form; the later family's looks); each row that meets fmt, with fmt's text TOLD by the authors' own Lean function (tested against real Go, not proved from fmt's source: count such statements apart). THE CARD IS WHAT COUNTS. Prove the row's statement (the work); the ties are given (YtpdgadohfhmcnaaDoorTie.lean); close each card by the builder's one call (the guide's Derived/Test/ToyasCard.lean, 'card_holds'). Laid BY PROGRAM, IN A SANDBOX (cutbox-door.mjs). By AI agents, Wed Nov 11 2026. No macro, syntax, notation, axiom, sorry.
-/
import Derived.Test.YtpdgadohfhmcnaaDoorRows
import GoSem.ClaimSeven
namespace Go.Proofs.YtpdgadohfhmcnaaDoor
namespace Rows

/-- THE TIED CARD OF 'stairwelllaw16.SegBytes'. -/
def segBytesCard : Claim7 := { stood := { row := segBytesRow, standIns := [], harness := (true, "4375e108c33bbf4c9a189bc7021cd7f160aaf2b5838f7426641ef213c8b11dd0"), looks := false }, kinds := [], alts := [], laidByText := true, laidKinds := [.data], laidTests := true, laidLooks := .later }
def SegBytesCardSaid : Prop := Claim7.holds Tryd.pinned (.plain (OpenSpec.ofChange segBytesSpec)) segBytesCard

/-- THE TIED CARD OF 'stairwelllaw16.SegNexts'. -/
def segNextsCard : Claim7 := { stood := { row := segNextsRow, standIns := [], harness := (true, "4375e108c33bbf4c9a189bc7021cd7f160aaf2b5838f7426641ef213c8b11dd0"), looks := false }, kinds := [], alts := [], laidByText := true, laidKinds := [.data], laidTests := true, laidLooks := .later }
def SegNextsCardSaid : Prop := Claim7.holds Tryd.pinned (.plain (OpenSpec.ofChange segNextsSpec)) segNextsCard

/-- THE TIED CARD OF 'stairwelllaw16.SegFalls'. -/
def segFallsCard : Claim7 := { stood := { row := segFallsRow, standIns := [], harness := (true, "4375e108c33bbf4c9a189bc7021cd7f160aaf2b5838f7426641ef213c8b11dd0"), looks := false }, kinds := [], alts := [], laidByText := true, laidKinds := [.data], laidTests := true, laidLooks := .later }
def SegFallsCardSaid : Prop := Claim7.holds Tryd.pinned (.plain (OpenSpec.ofChange segFallsSpec)) segFallsCard

/-- THE TIED CARD OF 'stairwelllaw16.SegLong'. -/
def segLongCard : Claim7 := { stood := { row := segLongRow, standIns := [], harness := (true, "4375e108c33bbf4c9a189bc7021cd7f160aaf2b5838f7426641ef213c8b11dd0"), looks := false }, kinds := [], alts := [], laidByText := true, laidKinds := [.data], laidTests := true, laidLooks := .later }
def SegLongCardSaid : Prop := Claim7.holds Tryd.pinned (.plain (OpenSpec.ofChange segLongSpec)) segLongCard

/-- THE TIED CARD OF 'stairwelllaw16.SegJoins'. -/
def segJoinsCard : Claim7 := { stood := { row := segJoinsRow, standIns := [], harness := (true, "4375e108c33bbf4c9a189bc7021cd7f160aaf2b5838f7426641ef213c8b11dd0"), looks := false }, kinds := [], alts := [], laidByText := true, laidKinds := [.data], laidTests := true, laidLooks := .later }
def SegJoinsCardSaid : Prop := Claim7.holds Tryd.pinned (.plain (OpenSpec.ofChange segJoinsSpec)) segJoinsCard

/-- THE SECOND FORM's CARD OF 'stairwelllaw16.SegBytes'. -/
def segBytesUptoCard : Claim7 := { stood := { row := segBytesUptoRow, standIns := [], harness := (true, "4375e108c33bbf4c9a189bc7021cd7f160aaf2b5838f7426641ef213c8b11dd0"), looks := false }, kinds := [], alts := [], laidByText := true, laidKinds := [.data], laidTests := true, laidLooks := .later }
def SegBytesUptoCardSaid : Prop := Claim7.holds Tryd.pinned (.plain (OpenSpec.upto segBytesSpec)) segBytesUptoCard

/-- THE SECOND FORM's CARD OF 'stairwelllaw16.SegNexts'. -/
def segNextsUptoCard : Claim7 := { stood := { row := segNextsUptoRow, standIns := [], harness := (true, "4375e108c33bbf4c9a189bc7021cd7f160aaf2b5838f7426641ef213c8b11dd0"), looks := false }, kinds := [], alts := [], laidByText := true, laidKinds := [.data], laidTests := true, laidLooks := .later }
def SegNextsUptoCardSaid : Prop := Claim7.holds Tryd.pinned (.plain (OpenSpec.upto segNextsSpec)) segNextsUptoCard

/-- THE SECOND FORM's CARD OF 'stairwelllaw16.SegFalls'. -/
def segFallsUptoCard : Claim7 := { stood := { row := segFallsUptoRow, standIns := [], harness := (true, "4375e108c33bbf4c9a189bc7021cd7f160aaf2b5838f7426641ef213c8b11dd0"), looks := false }, kinds := [], alts := [], laidByText := true, laidKinds := [.data], laidTests := true, laidLooks := .later }
def SegFallsUptoCardSaid : Prop := Claim7.holds Tryd.pinned (.plain (OpenSpec.upto segFallsSpec)) segFallsUptoCard

/-- THE SECOND FORM's CARD OF 'stairwelllaw16.SegLong'. -/
def segLongUptoCard : Claim7 := { stood := { row := segLongUptoRow, standIns := [], harness := (true, "4375e108c33bbf4c9a189bc7021cd7f160aaf2b5838f7426641ef213c8b11dd0"), looks := false }, kinds := [], alts := [], laidByText := true, laidKinds := [.data], laidTests := true, laidLooks := .later }
def SegLongUptoCardSaid : Prop := Claim7.holds Tryd.pinned (.plain (OpenSpec.upto segLongSpec)) segLongUptoCard

/-- THE SECOND FORM's CARD OF 'stairwelllaw16.SegJoins'. -/
def segJoinsUptoCard : Claim7 := { stood := { row := segJoinsUptoRow, standIns := [], harness := (true, "4375e108c33bbf4c9a189bc7021cd7f160aaf2b5838f7426641ef213c8b11dd0"), looks := false }, kinds := [], alts := [], laidByText := true, laidKinds := [.data], laidTests := true, laidLooks := .later }
def SegJoinsUptoCardSaid : Prop := Claim7.holds Tryd.pinned (.plain (OpenSpec.upto segJoinsSpec)) segJoinsUptoCard
end Rows
end Go.Proofs.YtpdgadohfhmcnaaDoor
