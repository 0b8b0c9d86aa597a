/-
  NARROWER THAN 'FOR EVERY INPUT', by the rows' own cells (each row's printed sentence says how): SegBytes: laid · SegNexts: laid · SegFalls: laid · SegLong: laid · SegJoins: laid.
  DERIVED. THE GIVEN ROWS OF THIS SEAT. 5 by the template 'for every input the law returns true; each argument reads behind the call as it read before'; 0 by the template 'total and deterministic' (their statements: YtpdgadohfhmcnaaDoorTotals.lean).
  GIVEN WITH THE SEED: the statements are not yours to turn. If you find one false, say at which input.
  Laid BY PROGRAM, IN A SANDBOX (cutbox-rows.mjs): the forced cells as the released guide's own fill.sh prints them over the translation 542a37ff90e2f885… (all of the seat's roots in one cut). By AI agents, Wed Nov 11 2026. No macro, syntax, notation, axiom, sorry.
-/
import Derived.Test.YtpdgadohfhmcnaaDoorChecked
import GoSem.Claim
import GoSem.ClaimJoined
import GoSem.ClaimMapViews
import Derived.JoinedTies
import Derived.KernelRfl
namespace Go.Proofs.YtpdgadohfhmcnaaDoor
/- THE CELL 'sum', in the pinned program and in every row, IS THE sha256 OF THE DUMP (.gsa) THAT YtpdgadohfhmcnaaDoorProg.lean LOADS. Nothing in Lean hashes anything: it is a label: what it is worth is what the hold of that sum in a sandbox is worth. -/
noncomputable def Tryd.pinned : Pinned := { name := "ytpdgadohfhmcnaadoor", sum := "542a37ff90e2f885cff6e291f00fba8e295b07abe360ed2d9b2589e263f6bccb", checked := Tryd.checked }
namespace Rows
def none {H : Type} : Left H := { results := [], args := [] }

/- WHAT THE LISTED PACKAGE-LEVEL VARIABLES READ AS WHEN THE CALL BEGINS. Each datum BY PROGRAM (the guide's laid-datum.mjs) off the statement by which the dump's own 'gosem.cut.vars' lays the variable. In a bare row this is a premise. The card (YtpdgadohfhmcnaaDoorCards.lean) ties it to the program's text. -/
def laid_stairwell_crc_laid {H : Type} : DataW H := .agg [.lit (.int .u32 0), .lit (.int .u32 498536548), .lit (.int .u32 997073096), .lit (.int .u32 651767980), .lit (.int .u32 1994146192), .lit (.int .u32 1802195444), .lit (.int .u32 1303535960), .lit (.int .u32 1342533948), .lit (.int .u32 3988292384), .lit (.int .u32 4027552580), .lit (.int .u32 3604390888), .lit (.int .u32 3412177804), .lit (.int .u32 2607071920), .lit (.int .u32 2262029012), .lit (.int .u32 2685067896), .lit (.int .u32 3183342108)]

/-- 'stairwelllaw16.SegBytes': WHATEVER THE INPUT: true; the input reads as it did. -/
def segBytesSpec : ChangeSpec := { name := "segBytes", fn := fun _ => fun
  | [d1, d2] => { results := [.lit (.bool true)], args := [d1, d2] }
  | _ => none }
def segBytesRow : OpenClaim := { program := "ytpdgadohfhmcnaadoor", sum := "542a37ff90e2f885cff6e291f00fba8e295b07abe360ed2d9b2589e263f6bccb", func := "stairwell/stairwelllaw16.SegBytes", spec := "segBytes", inPlace := ["internal/abi.NoEscape"], recurses := true, named := ["stairwell/crc.laid"], apart := false, laid := [("stairwell/crc.laid", laid_stairwell_crc_laid)] }
def SegBytesSaid : Prop := segBytesRow.holds Tryd.pinned (OpenSpec.ofChange segBytesSpec)

/-- ITS FALSE NEIGHBOUR: 'it returns false'. Refute it at one input. -/
def segBytesWrong : ChangeSpec := { name := "segBytes", fn := fun _ => fun
  | [d1, d2] => { results := [.lit (.bool false)], args := [d1, d2] }
  | _ => none }
def SegBytesWrongFalsely : Prop := segBytesRow.holds Tryd.pinned (OpenSpec.ofChange segBytesWrong)

/-- 'stairwelllaw16.SegNexts': WHATEVER THE INPUT: true; the input reads as it did. -/
def segNextsSpec : ChangeSpec := { name := "segNexts", fn := fun _ => fun
  | [d] => { results := [.lit (.bool true)], args := [d] }
  | _ => none }
def segNextsRow : OpenClaim := { program := "ytpdgadohfhmcnaadoor", sum := "542a37ff90e2f885cff6e291f00fba8e295b07abe360ed2d9b2589e263f6bccb", func := "stairwell/stairwelllaw16.SegNexts", spec := "segNexts", inPlace := ["internal/abi.NoEscape"], recurses := true, named := ["stairwell/crc.laid"], apart := false, laid := [("stairwell/crc.laid", laid_stairwell_crc_laid)] }
def SegNextsSaid : Prop := segNextsRow.holds Tryd.pinned (OpenSpec.ofChange segNextsSpec)

/-- ITS FALSE NEIGHBOUR: 'it returns false'. Refute it at one input. -/
def segNextsWrong : ChangeSpec := { name := "segNexts", fn := fun _ => fun
  | [d] => { results := [.lit (.bool false)], args := [d] }
  | _ => none }
def SegNextsWrongFalsely : Prop := segNextsRow.holds Tryd.pinned (OpenSpec.ofChange segNextsWrong)

/-- 'stairwelllaw16.SegFalls': WHATEVER THE INPUT: true; the input reads as it did. -/
def segFallsSpec : ChangeSpec := { name := "segFalls", fn := fun _ => fun
  | [d1, d2, d3] => { results := [.lit (.bool true)], args := [d1, d2, d3] }
  | _ => none }
def segFallsRow : OpenClaim := { program := "ytpdgadohfhmcnaadoor", sum := "542a37ff90e2f885cff6e291f00fba8e295b07abe360ed2d9b2589e263f6bccb", func := "stairwell/stairwelllaw16.SegFalls", spec := "segFalls", inPlace := ["internal/abi.NoEscape"], named := ["stairwell/crc.laid"], apart := false, laid := [("stairwell/crc.laid", laid_stairwell_crc_laid)] }
def SegFallsSaid : Prop := segFallsRow.holds Tryd.pinned (OpenSpec.ofChange segFallsSpec)

/-- ITS FALSE NEIGHBOUR: 'it returns false'. Refute it at one input. -/
def segFallsWrong : ChangeSpec := { name := "segFalls", fn := fun _ => fun
  | [d1, d2, d3] => { results := [.lit (.bool false)], args := [d1, d2, d3] }
  | _ => none }
def SegFallsWrongFalsely : Prop := segFallsRow.holds Tryd.pinned (OpenSpec.ofChange segFallsWrong)

/-- 'stairwelllaw16.SegLong': WHATEVER THE INPUT: true; the input reads as it did. -/
def segLongSpec : ChangeSpec := { name := "segLong", fn := fun _ => fun
  | [d1, d2] => { results := [.lit (.bool true)], args := [d1, d2] }
  | _ => none }
def segLongRow : OpenClaim := { program := "ytpdgadohfhmcnaadoor", sum := "542a37ff90e2f885cff6e291f00fba8e295b07abe360ed2d9b2589e263f6bccb", func := "stairwell/stairwelllaw16.SegLong", spec := "segLong", inPlace := ["internal/abi.NoEscape"], named := ["stairwell/crc.laid"], apart := false, laid := [("stairwell/crc.laid", laid_stairwell_crc_laid)] }
def SegLongSaid : Prop := segLongRow.holds Tryd.pinned (OpenSpec.ofChange segLongSpec)

/-- ITS FALSE NEIGHBOUR: 'it returns false'. Refute it at one input. -/
def segLongWrong : ChangeSpec := { name := "segLong", fn := fun _ => fun
  | [d1, d2] => { results := [.lit (.bool false)], args := [d1, d2] }
  | _ => none }
def SegLongWrongFalsely : Prop := segLongRow.holds Tryd.pinned (OpenSpec.ofChange segLongWrong)

/-- 'stairwelllaw16.SegJoins': WHATEVER THE INPUT: true; the input reads as it did. -/
def segJoinsSpec : ChangeSpec := { name := "segJoins", fn := fun _ => fun
  | [d1, d2] => { results := [.lit (.bool true)], args := [d1, d2] }
  | _ => none }
def segJoinsRow : OpenClaim := { program := "ytpdgadohfhmcnaadoor", sum := "542a37ff90e2f885cff6e291f00fba8e295b07abe360ed2d9b2589e263f6bccb", func := "stairwell/stairwelllaw16.SegJoins", spec := "segJoins", inPlace := ["internal/abi.NoEscape"], named := ["stairwell/crc.laid"], apart := false, laid := [("stairwell/crc.laid", laid_stairwell_crc_laid)] }
def SegJoinsSaid : Prop := segJoinsRow.holds Tryd.pinned (OpenSpec.ofChange segJoinsSpec)

/-- ITS FALSE NEIGHBOUR: 'it returns false'. Refute it at one input. -/
def segJoinsWrong : ChangeSpec := { name := "segJoins", fn := fun _ => fun
  | [d1, d2] => { results := [.lit (.bool false)], args := [d1, d2] }
  | _ => none }
def SegJoinsWrongFalsely : Prop := segJoinsRow.holds Tryd.pinned (OpenSpec.ofChange segJoinsWrong)

/- THE SECOND FORM. 'bulk': how many values and letters a reading holds, each counted each time it is reached (what is shared counts as often as it is met; a slice's spare places count too). A statement '..UptoSaid' is the law's where the arguments, and the package variables that the reading takes, are together of bulk at most 1048576: NARROWER than '..Said'. Prove '..Said' where nothing that the law and all that it calls make is longer than what came in: it says more and counts as full. Else prove '..UptoSaid'. A law counts once. -/
mutual
def uptoBulk {H : Type} : DataW H → Nat
  | .lit (.string bytes) => bytes.length + 1
  | .lit _ => 1
  | .nil => 1
  | .ptr d => uptoBulk d + 1
  | .slice elems spare => uptoBulkAll elems + uptoBulkAll spare + 1
  | .agg parts => uptoBulkAll parts + 1
  | .iface _ d => uptoBulk d + 1
  | .map entries => uptoBulkEntries entries + 1
  | .held _ => 1
def uptoBulkAll {H : Type} : List (DataW H) → Nat
  | [] => 0
  | d :: r => uptoBulk d + uptoBulkAll r
def uptoBulkEntries {H : Type} : List (Lit × DataW H) → Nat
  | [] => 0
  | x :: r => uptoBulkEntry x + uptoBulkEntries r
def uptoBulkEntry {H : Type} : Lit × DataW H → Nat
  | (.string bytes, d) => bytes.length + uptoBulk d + 1
  | (_, d) => uptoBulk d + 1
 end
def uptoSmall : (H : Type) → List (DataW H) → Bool := fun _ ds => decide (uptoBulkAll ds ≤ 1048576)
def OpenSpec.upto (s : _root_.Go.ChangeSpec) : _root_.Go.OpenSpec := { _root_.Go.OpenSpec.ofChange s with cond := some uptoSmall }

/-- 'stairwelllaw16.SegBytes', WHERE WHAT IT READS IS OF BULK AT MOST 1048576: true; the input reads as it did. -/
def segBytesUptoRow : OpenClaim := { program := "ytpdgadohfhmcnaadoor", sum := "542a37ff90e2f885cff6e291f00fba8e295b07abe360ed2d9b2589e263f6bccb", func := "stairwell/stairwelllaw16.SegBytes", spec := "segBytes", inPlace := ["internal/abi.NoEscape"], recurses := true, named := ["stairwell/crc.laid"], apart := false, laid := [("stairwell/crc.laid", laid_stairwell_crc_laid)], narrowed := true }
def SegBytesUptoSaid : Prop := segBytesUptoRow.holds Tryd.pinned (OpenSpec.upto segBytesSpec)

/-- 'stairwelllaw16.SegNexts', WHERE WHAT IT READS IS OF BULK AT MOST 1048576: true; the input reads as it did. -/
def segNextsUptoRow : OpenClaim := { program := "ytpdgadohfhmcnaadoor", sum := "542a37ff90e2f885cff6e291f00fba8e295b07abe360ed2d9b2589e263f6bccb", func := "stairwell/stairwelllaw16.SegNexts", spec := "segNexts", inPlace := ["internal/abi.NoEscape"], recurses := true, named := ["stairwell/crc.laid"], apart := false, laid := [("stairwell/crc.laid", laid_stairwell_crc_laid)], narrowed := true }
def SegNextsUptoSaid : Prop := segNextsUptoRow.holds Tryd.pinned (OpenSpec.upto segNextsSpec)

/-- 'stairwelllaw16.SegFalls', WHERE WHAT IT READS IS OF BULK AT MOST 1048576: true; the input reads as it did. -/
def segFallsUptoRow : OpenClaim := { program := "ytpdgadohfhmcnaadoor", sum := "542a37ff90e2f885cff6e291f00fba8e295b07abe360ed2d9b2589e263f6bccb", func := "stairwell/stairwelllaw16.SegFalls", spec := "segFalls", inPlace := ["internal/abi.NoEscape"], named := ["stairwell/crc.laid"], apart := false, laid := [("stairwell/crc.laid", laid_stairwell_crc_laid)], narrowed := true }
def SegFallsUptoSaid : Prop := segFallsUptoRow.holds Tryd.pinned (OpenSpec.upto segFallsSpec)

/-- 'stairwelllaw16.SegLong', WHERE WHAT IT READS IS OF BULK AT MOST 1048576: true; the input reads as it did. -/
def segLongUptoRow : OpenClaim := { program := "ytpdgadohfhmcnaadoor", sum := "542a37ff90e2f885cff6e291f00fba8e295b07abe360ed2d9b2589e263f6bccb", func := "stairwell/stairwelllaw16.SegLong", spec := "segLong", inPlace := ["internal/abi.NoEscape"], named := ["stairwell/crc.laid"], apart := false, laid := [("stairwell/crc.laid", laid_stairwell_crc_laid)], narrowed := true }
def SegLongUptoSaid : Prop := segLongUptoRow.holds Tryd.pinned (OpenSpec.upto segLongSpec)

/-- 'stairwelllaw16.SegJoins', WHERE WHAT IT READS IS OF BULK AT MOST 1048576: true; the input reads as it did. -/
def segJoinsUptoRow : OpenClaim := { program := "ytpdgadohfhmcnaadoor", sum := "542a37ff90e2f885cff6e291f00fba8e295b07abe360ed2d9b2589e263f6bccb", func := "stairwell/stairwelllaw16.SegJoins", spec := "segJoins", inPlace := ["internal/abi.NoEscape"], named := ["stairwell/crc.laid"], apart := false, laid := [("stairwell/crc.laid", laid_stairwell_crc_laid)], narrowed := true }
def SegJoinsUptoSaid : Prop := segJoinsUptoRow.holds Tryd.pinned (OpenSpec.upto segJoinsSpec)

end Rows
end Go.Proofs.YtpdgadohfhmcnaaDoor
