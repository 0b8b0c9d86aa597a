/-
  No cell of these rows narrows 'for every input' (looked for: loops, veiled, ifaces, maps, wideKeys, modest, calm, conditions, laid).
  DERIVED. THE GIVEN ROWS OF THIS SEAT. 4 by the template 'for every input the law returns true; each argument reads behind the call as it read before'; 0 by the template 'total and deterministic' (their statements: YtabnkbdbbneihaaTotals.lean).
  GIVEN WITH THE SEED: the statements are not yours to turn. If you find one false, say at which input.
  Laid BY PROGRAM, IN A SANDBOX (cutbox-rows.mjs): the forced cells as the released guide's own fill.sh prints them over the translation 02c64b6dd41b7782… (all of the seat's roots in one cut). By AI agents, Wed Nov 11 2026. No macro, syntax, notation, axiom, sorry.
-/
import Derived.Test.YtabnkbdbbneihaaChecked
import GoSem.Claim
import GoSem.ClaimJoined
import GoSem.ClaimMapViews
import Derived.JoinedTies
import Derived.KernelRfl
namespace Go.Proofs.Ytabnkbdbbneihaa
/- THE CELL 'sum', in the pinned program and in every row, IS THE sha256 OF THE DUMP (.gsa) THAT YtabnkbdbbneihaaProg.lean LOADS. Nothing in Lean hashes anything: it is a label: what it is worth is what the hold of that sum in a sandbox is worth. -/
noncomputable def Try.pinned : Pinned := { name := "ytabnkbdbbneihaa", sum := "02c64b6dd41b77828b7dbf499609bdda1af909d7a309188d2ef276583c9c4d8f", checked := Try.checked }
namespace Rows
def none {H : Type} : Left H := { results := [], args := [] }

/-- 'stairwelllaw19.NotesPlay': WHATEVER THE INPUT: true; the input reads as it did. -/
def notesPlaySpec : ChangeSpec := { name := "notesPlay", fn := fun _ => fun
  | [d1, d2] => { results := [.lit (.bool true)], args := [d1, d2] }
  | _ => none }
def notesPlayRow : OpenClaim := { program := "ytabnkbdbbneihaa", sum := "02c64b6dd41b77828b7dbf499609bdda1af909d7a309188d2ef276583c9c4d8f", func := "stairwell/stairwelllaw19.NotesPlay", spec := "notesPlay", recurses := true, apart := false }
def NotesPlaySaid : Prop := notesPlayRow.holds Try.pinned (OpenSpec.ofChange notesPlaySpec)

/-- ITS FALSE NEIGHBOUR: 'it returns false'. Refute it at one input. -/
def notesPlayWrong : ChangeSpec := { name := "notesPlay", fn := fun _ => fun
  | [d1, d2] => { results := [.lit (.bool false)], args := [d1, d2] }
  | _ => none }
def NotesPlayWrongFalsely : Prop := notesPlayRow.holds Try.pinned (OpenSpec.ofChange notesPlayWrong)

/-- 'stairwelllaw19.NotesReads': WHATEVER THE INPUT: true; the input reads as it did. -/
def notesReadsSpec : ChangeSpec := { name := "notesReads", fn := fun _ => fun
  | [d1, d2, d3] => { results := [.lit (.bool true)], args := [d1, d2, d3] }
  | _ => none }
def notesReadsRow : OpenClaim := { program := "ytabnkbdbbneihaa", sum := "02c64b6dd41b77828b7dbf499609bdda1af909d7a309188d2ef276583c9c4d8f", func := "stairwell/stairwelllaw19.NotesReads", spec := "notesReads", apart := false }
def NotesReadsSaid : Prop := notesReadsRow.holds Try.pinned (OpenSpec.ofChange notesReadsSpec)

/-- ITS FALSE NEIGHBOUR: 'it returns false'. Refute it at one input. -/
def notesReadsWrong : ChangeSpec := { name := "notesReads", fn := fun _ => fun
  | [d1, d2, d3] => { results := [.lit (.bool false)], args := [d1, d2, d3] }
  | _ => none }
def NotesReadsWrongFalsely : Prop := notesReadsRow.holds Try.pinned (OpenSpec.ofChange notesReadsWrong)

/-- 'stairwelllaw19.NotesLast': WHATEVER THE INPUT: true; the input reads as it did. -/
def notesLastSpec : ChangeSpec := { name := "notesLast", fn := fun _ => fun
  | [d1, d2] => { results := [.lit (.bool true)], args := [d1, d2] }
  | _ => none }
def notesLastRow : OpenClaim := { program := "ytabnkbdbbneihaa", sum := "02c64b6dd41b77828b7dbf499609bdda1af909d7a309188d2ef276583c9c4d8f", func := "stairwell/stairwelllaw19.NotesLast", spec := "notesLast", apart := false }
def NotesLastSaid : Prop := notesLastRow.holds Try.pinned (OpenSpec.ofChange notesLastSpec)

/-- ITS FALSE NEIGHBOUR: 'it returns false'. Refute it at one input. -/
def notesLastWrong : ChangeSpec := { name := "notesLast", fn := fun _ => fun
  | [d1, d2] => { results := [.lit (.bool false)], args := [d1, d2] }
  | _ => none }
def NotesLastWrongFalsely : Prop := notesLastRow.holds Try.pinned (OpenSpec.ofChange notesLastWrong)

/-- 'stairwelllaw19.NotesNumbers': WHATEVER THE INPUT: true; the input reads as it did. -/
def notesNumbersSpec : ChangeSpec := { name := "notesNumbers", fn := fun _ => fun
  | [d] => { results := [.lit (.bool true)], args := [d] }
  | _ => none }
def notesNumbersRow : OpenClaim := { program := "ytabnkbdbbneihaa", sum := "02c64b6dd41b77828b7dbf499609bdda1af909d7a309188d2ef276583c9c4d8f", func := "stairwell/stairwelllaw19.NotesNumbers", spec := "notesNumbers", apart := false }
def NotesNumbersSaid : Prop := notesNumbersRow.holds Try.pinned (OpenSpec.ofChange notesNumbersSpec)

/-- ITS FALSE NEIGHBOUR: 'it returns false'. Refute it at one input. -/
def notesNumbersWrong : ChangeSpec := { name := "notesNumbers", fn := fun _ => fun
  | [d] => { results := [.lit (.bool false)], args := [d] }
  | _ => none }
def NotesNumbersWrongFalsely : Prop := notesNumbersRow.holds Try.pinned (OpenSpec.ofChange notesNumbersWrong)

/- THE SECOND FORM. 'bulk': how many values and letters a reading holds, each counted each time it is reached (what is shared counts as often as it is met; a slice's spare places count too). A statement '..UptoSaid' is the law's where the arguments, and the package variables that the reading takes, are together of bulk at most 1048576: NARROWER than '..Said'. Prove '..Said' where nothing that the law and all that it calls make is longer than what came in: it says more and counts as full. Else prove '..UptoSaid'. A law counts once. -/
mutual
def uptoBulk {H : Type} : DataW H → Nat
  | .lit (.string bytes) => bytes.length + 1
  | .lit _ => 1
  | .nil => 1
  | .ptr d => uptoBulk d + 1
  | .slice elems spare => uptoBulkAll elems + uptoBulkAll spare + 1
  | .agg parts => uptoBulkAll parts + 1
  | .iface _ d => uptoBulk d + 1
  | .map entries => uptoBulkEntries entries + 1
  | .held _ => 1
def uptoBulkAll {H : Type} : List (DataW H) → Nat
  | [] => 0
  | d :: r => uptoBulk d + uptoBulkAll r
def uptoBulkEntries {H : Type} : List (Lit × DataW H) → Nat
  | [] => 0
  | x :: r => uptoBulkEntry x + uptoBulkEntries r
def uptoBulkEntry {H : Type} : Lit × DataW H → Nat
  | (.string bytes, d) => bytes.length + uptoBulk d + 1
  | (_, d) => uptoBulk d + 1
 end
def uptoSmall : (H : Type) → List (DataW H) → Bool := fun _ ds => decide (uptoBulkAll ds ≤ 1048576)
def OpenSpec.upto (s : _root_.Go.ChangeSpec) : _root_.Go.OpenSpec := { _root_.Go.OpenSpec.ofChange s with cond := some uptoSmall }

/-- 'stairwelllaw19.NotesPlay', WHERE WHAT IT READS IS OF BULK AT MOST 1048576: true; the input reads as it did. -/
def notesPlayUptoRow : OpenClaim := { program := "ytabnkbdbbneihaa", sum := "02c64b6dd41b77828b7dbf499609bdda1af909d7a309188d2ef276583c9c4d8f", func := "stairwell/stairwelllaw19.NotesPlay", spec := "notesPlay", recurses := true, apart := false, narrowed := true }
def NotesPlayUptoSaid : Prop := notesPlayUptoRow.holds Try.pinned (OpenSpec.upto notesPlaySpec)

/-- 'stairwelllaw19.NotesReads', WHERE WHAT IT READS IS OF BULK AT MOST 1048576: true; the input reads as it did. -/
def notesReadsUptoRow : OpenClaim := { program := "ytabnkbdbbneihaa", sum := "02c64b6dd41b77828b7dbf499609bdda1af909d7a309188d2ef276583c9c4d8f", func := "stairwell/stairwelllaw19.NotesReads", spec := "notesReads", apart := false, narrowed := true }
def NotesReadsUptoSaid : Prop := notesReadsUptoRow.holds Try.pinned (OpenSpec.upto notesReadsSpec)

/-- 'stairwelllaw19.NotesLast', WHERE WHAT IT READS IS OF BULK AT MOST 1048576: true; the input reads as it did. -/
def notesLastUptoRow : OpenClaim := { program := "ytabnkbdbbneihaa", sum := "02c64b6dd41b77828b7dbf499609bdda1af909d7a309188d2ef276583c9c4d8f", func := "stairwell/stairwelllaw19.NotesLast", spec := "notesLast", apart := false, narrowed := true }
def NotesLastUptoSaid : Prop := notesLastUptoRow.holds Try.pinned (OpenSpec.upto notesLastSpec)

/-- 'stairwelllaw19.NotesNumbers', WHERE WHAT IT READS IS OF BULK AT MOST 1048576: true; the input reads as it did. -/
def notesNumbersUptoRow : OpenClaim := { program := "ytabnkbdbbneihaa", sum := "02c64b6dd41b77828b7dbf499609bdda1af909d7a309188d2ef276583c9c4d8f", func := "stairwell/stairwelllaw19.NotesNumbers", spec := "notesNumbers", apart := false, narrowed := true }
def NotesNumbersUptoSaid : Prop := notesNumbersUptoRow.holds Try.pinned (OpenSpec.upto notesNumbersSpec)

end Rows
end Go.Proofs.Ytabnkbdbbneihaa
