/-
  DERIVED. GIVEN WITH THE SEED: THE CARDS: each row of YtchfddlfpcgbbaaDoorRows.lean that lists a variable, with what it lists TIED to the program's text (the seventh form; the later family's looks); each row that meets fmt, with fmt's text TOLD by the authors' own Lean function (tested against real Go, not proved from fmt's source: count such statements apart). THE CARD IS WHAT COUNTS. Prove the row's statement (the work); the ties are given (YtchfddlfpcgbbaaDoorTie.lean); close each card by the builder's one call (the guide's Derived/Test/ToyasCard.lean, 'card_holds'). Laid BY PROGRAM, IN A SANDBOX (cutbox-door.mjs). By AI agents, Wed Nov 11 2026. No macro, syntax, notation, axiom, sorry.
-/
import Derived.Test.YtchfddlfpcgbbaaDoorRows
import GoSem.ClaimSeven
namespace Go.Proofs.YtchfddlfpcgbbaaDoor
namespace Rows

/-- THE TIED CARD OF 'stairwelllaw03.LatticeTexts'. -/
def latticeTextsCard : Claim7 := { stood := { row := latticeTextsRow, standIns := [], harness := (true, "13922ca63be25f7e48b9666673d3830fed5180cf376ba8175352d609f62385b3"), looks := false }, kinds := [], alts := [], laidByText := true, laidKinds := [.data, .data, .data], laidTests := true, laidLooks := .later }
def LatticeTextsCardSaid : Prop := Claim7.holds Tryd.pinned (.plain (OpenSpec.ofChange latticeTextsSpec)) latticeTextsCard

/-- THE TIED CARD OF 'stairwelllaw04.WordsForms'. -/
def wordsFormsCard : Claim7 := { stood := { row := wordsFormsRow, standIns := [], harness := (true, "13922ca63be25f7e48b9666673d3830fed5180cf376ba8175352d609f62385b3"), looks := false }, kinds := [], alts := [], laidByText := true, laidKinds := [.data, .pinned], laidTests := true, laidLooks := .later }
def WordsFormsCardSaid : Prop := Claim7.holds Tryd.pinned (.plain (OpenSpec.ofChange wordsFormsSpec)) wordsFormsCard

/-- THE TIED CARD OF 'stairwelllaw04.WordsMatches'. -/
def wordsMatchesCard : Claim7 := { stood := { row := wordsMatchesRow, standIns := [], harness := (true, "13922ca63be25f7e48b9666673d3830fed5180cf376ba8175352d609f62385b3"), looks := false }, kinds := [], alts := [], laidByText := true, laidKinds := [.data, .pinned], laidTests := true, laidLooks := .later }
def WordsMatchesCardSaid : Prop := Claim7.holds Tryd.pinned (.plain (OpenSpec.ofChange wordsMatchesSpec)) wordsMatchesCard

/-- THE TIED CARD OF 'stairwelllaw04.WordsSelf'. -/
def wordsSelfCard : Claim7 := { stood := { row := wordsSelfRow, standIns := [], harness := (true, "13922ca63be25f7e48b9666673d3830fed5180cf376ba8175352d609f62385b3"), looks := false }, kinds := [], alts := [], laidByText := true, laidKinds := [.data, .pinned], laidTests := true, laidLooks := .later }
def WordsSelfCardSaid : Prop := Claim7.holds Tryd.pinned (.plain (OpenSpec.ofChange wordsSelfSpec)) wordsSelfCard

/-- THE TIED CARD OF 'stairwelllaw04.WordsStars'. -/
def wordsStarsCard : Claim7 := { stood := { row := wordsStarsRow, standIns := [], harness := (true, "13922ca63be25f7e48b9666673d3830fed5180cf376ba8175352d609f62385b3"), looks := false }, kinds := [], alts := [], laidByText := true, laidKinds := [.data, .pinned], laidTests := true, laidLooks := .later }
def WordsStarsCardSaid : Prop := Claim7.holds Tryd.pinned (.plain (OpenSpec.ofChange wordsStarsSpec)) wordsStarsCard

/-- THE SECOND FORM's CARD OF 'stairwelllaw03.LatticeTexts'. -/
def latticeTextsUptoCard : Claim7 := { stood := { row := latticeTextsUptoRow, standIns := [], harness := (true, "13922ca63be25f7e48b9666673d3830fed5180cf376ba8175352d609f62385b3"), looks := false }, kinds := [], alts := [], laidByText := true, laidKinds := [.data, .data, .data], laidTests := true, laidLooks := .later }
def LatticeTextsUptoCardSaid : Prop := Claim7.holds Tryd.pinned (.plain (OpenSpec.upto latticeTextsSpec)) latticeTextsUptoCard

/-- THE SECOND FORM's CARD OF 'stairwelllaw04.WordsForms'. -/
def wordsFormsUptoCard : Claim7 := { stood := { row := wordsFormsUptoRow, standIns := [], harness := (true, "13922ca63be25f7e48b9666673d3830fed5180cf376ba8175352d609f62385b3"), looks := false }, kinds := [], alts := [], laidByText := true, laidKinds := [.data, .pinned], laidTests := true, laidLooks := .later }
def WordsFormsUptoCardSaid : Prop := Claim7.holds Tryd.pinned (.plain (OpenSpec.upto wordsFormsSpec)) wordsFormsUptoCard

/-- THE SECOND FORM's CARD OF 'stairwelllaw04.WordsMatches'. -/
def wordsMatchesUptoCard : Claim7 := { stood := { row := wordsMatchesUptoRow, standIns := [], harness := (true, "13922ca63be25f7e48b9666673d3830fed5180cf376ba8175352d609f62385b3"), looks := false }, kinds := [], alts := [], laidByText := true, laidKinds := [.data, .pinned], laidTests := true, laidLooks := .later }
def WordsMatchesUptoCardSaid : Prop := Claim7.holds Tryd.pinned (.plain (OpenSpec.upto wordsMatchesSpec)) wordsMatchesUptoCard

/-- THE SECOND FORM's CARD OF 'stairwelllaw04.WordsSelf'. -/
def wordsSelfUptoCard : Claim7 := { stood := { row := wordsSelfUptoRow, standIns := [], harness := (true, "13922ca63be25f7e48b9666673d3830fed5180cf376ba8175352d609f62385b3"), looks := false }, kinds := [], alts := [], laidByText := true, laidKinds := [.data, .pinned], laidTests := true, laidLooks := .later }
def WordsSelfUptoCardSaid : Prop := Claim7.holds Tryd.pinned (.plain (OpenSpec.upto wordsSelfSpec)) wordsSelfUptoCard

/-- THE SECOND FORM's CARD OF 'stairwelllaw04.WordsStars'. -/
def wordsStarsUptoCard : Claim7 := { stood := { row := wordsStarsUptoRow, standIns := [], harness := (true, "13922ca63be25f7e48b9666673d3830fed5180cf376ba8175352d609f62385b3"), looks := false }, kinds := [], alts := [], laidByText := true, laidKinds := [.data, .pinned], laidTests := true, laidLooks := .later }
def WordsStarsUptoCardSaid : Prop := Claim7.holds Tryd.pinned (.plain (OpenSpec.upto wordsStarsSpec)) wordsStarsUptoCard
end Rows
end Go.Proofs.YtchfddlfpcgbbaaDoor
