/-
  DERIVED. GIVEN WITH THE SEED: THE CARDS: each row of YtgpnhccekpiijaaGreatDoorRows.lean that lists a variable, with what it lists TIED to the program's text (the seventh form; the later family's looks); each row that meets fmt, with fmt's text TOLD by the authors' own Lean function (tested against real Go, not proved from fmt's source: count such statements apart). THE CARD IS WHAT COUNTS. Prove the row's statement (the work); the ties are given (YtgpnhccekpiijaaGreatDoorTie.lean); close each card by the builder's one call (the guide's Derived/Test/ToyasCard.lean, 'card_holds'). Laid BY PROGRAM, IN A SANDBOX (cutbox-door.mjs). By AI agents, Wed Nov 11 2026. No macro, syntax, notation, axiom, sorry.
-/
import Derived.Test.YtgpnhccekpiijaaGreatDoorRows
import GoSem.ClaimSeven
namespace Go.Proofs.YtgpnhccekpiijaaGreatDoor
namespace Rows

/-- THE TIED CARD OF 'stairwelllaw17.WalPlays'. -/
def walPlaysCard : Claim7 := { stood := { row := walPlaysRow, standIns := [], harness := (true, "111a736180b91dfb228ce0260cf17d785315976fffaa2ef6b3a98e6444fddddd"), looks := false }, kinds := [], alts := [], laidByText := true, laidKinds := [.data], laidTests := true, laidLooks := .later }
def WalPlaysCardSaid : Prop := Claim7.holds Tryz.pinned (.plain (OpenSpec.ofChange walPlaysSpec)) walPlaysCard

/-- THE TIED CARD OF 'stairwelllaw18.LinePlays'. -/
def linePlaysCard : Claim7 := { stood := { row := linePlaysRow, standIns := [], harness := (true, "111a736180b91dfb228ce0260cf17d785315976fffaa2ef6b3a98e6444fddddd"), looks := false }, kinds := [], alts := [], laidByText := true, laidKinds := [.data, .pinned], laidTests := true, laidLooks := .later }
def LinePlaysCardSaid : Prop := Claim7.holds Tryz.pinned (.plain (OpenSpec.ofChange linePlaysSpec)) linePlaysCard

/-- THE TIED CARD OF 'stairwelllaw18.LineGoes'. -/
def lineGoesCard : Claim7 := { stood := { row := lineGoesRow, standIns := [], harness := (true, "111a736180b91dfb228ce0260cf17d785315976fffaa2ef6b3a98e6444fddddd"), looks := false }, kinds := [], alts := [], laidByText := true, laidKinds := [.data, .pinned], laidTests := true, laidLooks := .later }
def LineGoesCardSaid : Prop := Claim7.holds Tryz.pinned (.plain (OpenSpec.ofChange lineGoesSpec)) lineGoesCard

/-- THE TIED CARD OF 'stairwelllaw18.LineWakes'. -/
def lineWakesCard : Claim7 := { stood := { row := lineWakesRow, standIns := [], harness := (true, "111a736180b91dfb228ce0260cf17d785315976fffaa2ef6b3a98e6444fddddd"), looks := false }, kinds := [], alts := [], laidByText := true, laidKinds := [.data, .pinned], laidTests := true, laidLooks := .later }
def LineWakesCardSaid : Prop := Claim7.holds Tryz.pinned (.plain (OpenSpec.ofChange lineWakesSpec)) lineWakesCard

/-- THE TIED CARD OF 'stairwelllaw18.LineFirst'. -/
def lineFirstCard : Claim7 := { stood := { row := lineFirstRow, standIns := [], harness := (true, "111a736180b91dfb228ce0260cf17d785315976fffaa2ef6b3a98e6444fddddd"), looks := false }, kinds := [], alts := [], laidByText := true, laidKinds := [.data, .pinned], laidTests := true, laidLooks := .later }
def LineFirstCardSaid : Prop := Claim7.holds Tryz.pinned (.plain (OpenSpec.ofChange lineFirstSpec)) lineFirstCard

/-- THE SECOND FORM's CARD OF 'stairwelllaw17.WalPlays'. -/
def walPlaysUptoCard : Claim7 := { stood := { row := walPlaysUptoRow, standIns := [], harness := (true, "111a736180b91dfb228ce0260cf17d785315976fffaa2ef6b3a98e6444fddddd"), looks := false }, kinds := [], alts := [], laidByText := true, laidKinds := [.data], laidTests := true, laidLooks := .later }
def WalPlaysUptoCardSaid : Prop := Claim7.holds Tryz.pinned (.plain (OpenSpec.upto walPlaysSpec)) walPlaysUptoCard

/-- THE SECOND FORM's CARD OF 'stairwelllaw18.LinePlays'. -/
def linePlaysUptoCard : Claim7 := { stood := { row := linePlaysUptoRow, standIns := [], harness := (true, "111a736180b91dfb228ce0260cf17d785315976fffaa2ef6b3a98e6444fddddd"), looks := false }, kinds := [], alts := [], laidByText := true, laidKinds := [.data, .pinned], laidTests := true, laidLooks := .later }
def LinePlaysUptoCardSaid : Prop := Claim7.holds Tryz.pinned (.plain (OpenSpec.upto linePlaysSpec)) linePlaysUptoCard

/-- THE SECOND FORM's CARD OF 'stairwelllaw18.LineGoes'. -/
def lineGoesUptoCard : Claim7 := { stood := { row := lineGoesUptoRow, standIns := [], harness := (true, "111a736180b91dfb228ce0260cf17d785315976fffaa2ef6b3a98e6444fddddd"), looks := false }, kinds := [], alts := [], laidByText := true, laidKinds := [.data, .pinned], laidTests := true, laidLooks := .later }
def LineGoesUptoCardSaid : Prop := Claim7.holds Tryz.pinned (.plain (OpenSpec.upto lineGoesSpec)) lineGoesUptoCard

/-- THE SECOND FORM's CARD OF 'stairwelllaw18.LineWakes'. -/
def lineWakesUptoCard : Claim7 := { stood := { row := lineWakesUptoRow, standIns := [], harness := (true, "111a736180b91dfb228ce0260cf17d785315976fffaa2ef6b3a98e6444fddddd"), looks := false }, kinds := [], alts := [], laidByText := true, laidKinds := [.data, .pinned], laidTests := true, laidLooks := .later }
def LineWakesUptoCardSaid : Prop := Claim7.holds Tryz.pinned (.plain (OpenSpec.upto lineWakesSpec)) lineWakesUptoCard

/-- THE SECOND FORM's CARD OF 'stairwelllaw18.LineFirst'. -/
def lineFirstUptoCard : Claim7 := { stood := { row := lineFirstUptoRow, standIns := [], harness := (true, "111a736180b91dfb228ce0260cf17d785315976fffaa2ef6b3a98e6444fddddd"), looks := false }, kinds := [], alts := [], laidByText := true, laidKinds := [.data, .pinned], laidTests := true, laidLooks := .later }
def LineFirstUptoCardSaid : Prop := Claim7.holds Tryz.pinned (.plain (OpenSpec.upto lineFirstSpec)) lineFirstUptoCard
end Rows
end Go.Proofs.YtgpnhccekpiijaaGreatDoor
