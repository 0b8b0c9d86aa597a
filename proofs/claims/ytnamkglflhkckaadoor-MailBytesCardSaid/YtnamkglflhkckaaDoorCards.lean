/-
  DERIVED. GIVEN WITH THE SEED: THE CARDS: each row of YtnamkglflhkckaaDoorRows.lean that lists a variable, with what it lists TIED to the program's text (the seventh form; the later family's looks); each row that meets fmt, with fmt's text TOLD by the authors' own Lean function (tested against real Go, not proved from fmt's source: count such statements apart). THE CARD IS WHAT COUNTS. Prove the row's statement (the work); the ties are given (YtnamkglflhkckaaDoorTie.lean); close each card by the builder's one call (the guide's Derived/Test/ToyasCard.lean, 'card_holds'). Laid BY PROGRAM, IN A SANDBOX (cutbox-door.mjs). By AI agents, Wed Nov 11 2026. No macro, syntax, notation, axiom, sorry.
-/
import Derived.Test.YtnamkglflhkckaaDoorRows
import GoSem.ClaimSeven
namespace Go.Proofs.YtnamkglflhkckaaDoor
namespace Rows

/-- THE TIED CARD OF 'stairwelllaw12.ReplyReads'. -/
def replyReadsCard : Claim7 := { stood := { row := replyReadsRow, standIns := [], harness := (true, "34af840f3b452c671da571663c1a9198d1c8080386e2ee2cc3aadd66c776f54b"), looks := false }, kinds := [], alts := [], laidByText := true, laidKinds := [.data, .data, .pinned], laidTests := true, laidLooks := .later }
def ReplyReadsCardSaid : Prop := Claim7.holds Tryd.pinned (.plain (OpenSpec.ofChange replyReadsSpec)) replyReadsCard

/-- THE TIED CARD OF 'stairwelllaw13.MailBytes'. -/
def mailBytesCard : Claim7 := { stood := { row := mailBytesRow, standIns := [], harness := (true, "34af840f3b452c671da571663c1a9198d1c8080386e2ee2cc3aadd66c776f54b"), looks := false }, kinds := [], alts := [], laidByText := true, laidKinds := [.data, .pinned], laidTests := true, laidLooks := .later }
def MailBytesCardSaid : Prop := Claim7.holds Tryd.pinned (.plain (OpenSpec.ofChange mailBytesSpec)) mailBytesCard

/-- THE TIED CARD OF 'stairwelllaw13.MailReads'. -/
def mailReadsCard : Claim7 := { stood := { row := mailReadsRow, standIns := [], harness := (true, "34af840f3b452c671da571663c1a9198d1c8080386e2ee2cc3aadd66c776f54b"), looks := false }, kinds := [], alts := [], laidByText := true, laidKinds := [.data, .pinned], laidTests := true, laidLooks := .later }
def MailReadsCardSaid : Prop := Claim7.holds Tryd.pinned (.plain (OpenSpec.ofChange mailReadsSpec)) mailReadsCard

/-- THE TIED CARD OF 'stairwelllaw13.MailSame'. -/
def mailSameCard : Claim7 := { stood := { row := mailSameRow, standIns := [], harness := (true, "34af840f3b452c671da571663c1a9198d1c8080386e2ee2cc3aadd66c776f54b"), looks := false }, kinds := [], alts := [], laidByText := true, laidKinds := [.data, .pinned], laidTests := true, laidLooks := .later }
def MailSameCardSaid : Prop := Claim7.holds Tryd.pinned (.plain (OpenSpec.ofChange mailSameSpec)) mailSameCard

/-- THE SECOND FORM's CARD OF 'stairwelllaw12.ReplyReads'. -/
def replyReadsUptoCard : Claim7 := { stood := { row := replyReadsUptoRow, standIns := [], harness := (true, "34af840f3b452c671da571663c1a9198d1c8080386e2ee2cc3aadd66c776f54b"), looks := false }, kinds := [], alts := [], laidByText := true, laidKinds := [.data, .data, .pinned], laidTests := true, laidLooks := .later }
def ReplyReadsUptoCardSaid : Prop := Claim7.holds Tryd.pinned (.plain (OpenSpec.upto replyReadsSpec)) replyReadsUptoCard

/-- THE SECOND FORM's CARD OF 'stairwelllaw13.MailBytes'. -/
def mailBytesUptoCard : Claim7 := { stood := { row := mailBytesUptoRow, standIns := [], harness := (true, "34af840f3b452c671da571663c1a9198d1c8080386e2ee2cc3aadd66c776f54b"), looks := false }, kinds := [], alts := [], laidByText := true, laidKinds := [.data, .pinned], laidTests := true, laidLooks := .later }
def MailBytesUptoCardSaid : Prop := Claim7.holds Tryd.pinned (.plain (OpenSpec.upto mailBytesSpec)) mailBytesUptoCard

/-- THE SECOND FORM's CARD OF 'stairwelllaw13.MailReads'. -/
def mailReadsUptoCard : Claim7 := { stood := { row := mailReadsUptoRow, standIns := [], harness := (true, "34af840f3b452c671da571663c1a9198d1c8080386e2ee2cc3aadd66c776f54b"), looks := false }, kinds := [], alts := [], laidByText := true, laidKinds := [.data, .pinned], laidTests := true, laidLooks := .later }
def MailReadsUptoCardSaid : Prop := Claim7.holds Tryd.pinned (.plain (OpenSpec.upto mailReadsSpec)) mailReadsUptoCard

/-- THE SECOND FORM's CARD OF 'stairwelllaw13.MailSame'. -/
def mailSameUptoCard : Claim7 := { stood := { row := mailSameUptoRow, standIns := [], harness := (true, "34af840f3b452c671da571663c1a9198d1c8080386e2ee2cc3aadd66c776f54b"), looks := false }, kinds := [], alts := [], laidByText := true, laidKinds := [.data, .pinned], laidTests := true, laidLooks := .later }
def MailSameUptoCardSaid : Prop := Claim7.holds Tryd.pinned (.plain (OpenSpec.upto mailSameSpec)) mailSameUptoCard
end Rows
end Go.Proofs.YtnamkglflhkckaaDoor
