/-
  NARROWER THAN 'FOR EVERY INPUT', by the rows' own cells (each row's printed sentence says how): FrameBytes: laid · FrameParses: laid · FrameShort: laid · FrameTurned: laid · FeedTakes: laid · FeedCuts: laid · FeedFrames: laid.
  DERIVED. THE GIVEN ROWS OF THIS SEAT. 7 by the template 'for every input the law returns true; each argument reads behind the call as it read before'; 0 by the template 'total and deterministic' (their statements: YtecgedbabcdfkaaDoorTotals.lean).
  GIVEN WITH THE SEED: the statements are not yours to turn. If you find one false, say at which input.
  Laid BY PROGRAM, IN A SANDBOX (cutbox-rows.mjs): the forced cells as the released guide's own fill.sh prints them over the translation c6122a4147755267… (all of the seat's roots in one cut). By AI agents, Wed Nov 11 2026. No macro, syntax, notation, axiom, sorry.
-/
import Derived.Test.YtecgedbabcdfkaaDoorChecked
import GoSem.Claim
import GoSem.ClaimJoined
import GoSem.ClaimMapViews
import Derived.JoinedTies
import Derived.KernelRfl
namespace Go.Proofs.YtecgedbabcdfkaaDoor
/- THE CELL 'sum', in the pinned program and in every row, IS THE sha256 OF THE DUMP (.gsa) THAT YtecgedbabcdfkaaDoorProg.lean LOADS. Nothing in Lean hashes anything: it is a label: what it is worth is what the hold of that sum in a sandbox is worth. -/
noncomputable def Tryd.pinned : Pinned := { name := "ytecgedbabcdfkaadoor", sum := "c6122a414775526779a67369e17107d790a5eb3f0725282e9d9629eeeee2a05a", checked := Tryd.checked }
namespace Rows
def none {H : Type} : Left H := { results := [], args := [] }

/- WHAT THE LISTED PACKAGE-LEVEL VARIABLES READ AS WHEN THE CALL BEGINS. Each datum BY PROGRAM (the guide's laid-datum.mjs) off the statement by which the dump's own 'gosem.cut.vars' lays the variable. In a bare row this is a premise. The card (YtecgedbabcdfkaaDoorCards.lean) ties it to the program's text. -/
def laid_stairwell_crc_laid {H : Type} : DataW H := .agg [.lit (.int .u32 0), .lit (.int .u32 498536548), .lit (.int .u32 997073096), .lit (.int .u32 651767980), .lit (.int .u32 1994146192), .lit (.int .u32 1802195444), .lit (.int .u32 1303535960), .lit (.int .u32 1342533948), .lit (.int .u32 3988292384), .lit (.int .u32 4027552580), .lit (.int .u32 3604390888), .lit (.int .u32 3412177804), .lit (.int .u32 2607071920), .lit (.int .u32 2262029012), .lit (.int .u32 2685067896), .lit (.int .u32 3183342108)]

/-- 'stairwelllaw07.FrameBytes': WHATEVER THE INPUT: true; the input reads as it did. -/
def frameBytesSpec : ChangeSpec := { name := "frameBytes", fn := fun _ => fun
  | [d1, d2, d3] => { results := [.lit (.bool true)], args := [d1, d2, d3] }
  | _ => none }
def frameBytesRow : OpenClaim := { program := "ytecgedbabcdfkaadoor", sum := "c6122a414775526779a67369e17107d790a5eb3f0725282e9d9629eeeee2a05a", func := "stairwell/stairwelllaw07.FrameBytes", spec := "frameBytes", inPlace := ["internal/abi.NoEscape", "internal/bytealg.MakeNoZero"], recurses := true, named := ["stairwell/crc.laid"], apart := false, laid := [("stairwell/crc.laid", laid_stairwell_crc_laid)] }
def FrameBytesSaid : Prop := frameBytesRow.holds Tryd.pinned (OpenSpec.ofChange frameBytesSpec)

/-- ITS FALSE NEIGHBOUR: 'it returns false'. Refute it at one input. -/
def frameBytesWrong : ChangeSpec := { name := "frameBytes", fn := fun _ => fun
  | [d1, d2, d3] => { results := [.lit (.bool false)], args := [d1, d2, d3] }
  | _ => none }
def FrameBytesWrongFalsely : Prop := frameBytesRow.holds Tryd.pinned (OpenSpec.ofChange frameBytesWrong)

/-- 'stairwelllaw07.FrameParses': WHATEVER THE INPUT: true; the input reads as it did. -/
def frameParsesSpec : ChangeSpec := { name := "frameParses", fn := fun _ => fun
  | [d] => { results := [.lit (.bool true)], args := [d] }
  | _ => none }
def frameParsesRow : OpenClaim := { program := "ytecgedbabcdfkaadoor", sum := "c6122a414775526779a67369e17107d790a5eb3f0725282e9d9629eeeee2a05a", func := "stairwell/stairwelllaw07.FrameParses", spec := "frameParses", recurses := true, named := ["stairwell/crc.laid"], apart := false, laid := [("stairwell/crc.laid", laid_stairwell_crc_laid)] }
def FrameParsesSaid : Prop := frameParsesRow.holds Tryd.pinned (OpenSpec.ofChange frameParsesSpec)

/-- ITS FALSE NEIGHBOUR: 'it returns false'. Refute it at one input. -/
def frameParsesWrong : ChangeSpec := { name := "frameParses", fn := fun _ => fun
  | [d] => { results := [.lit (.bool false)], args := [d] }
  | _ => none }
def FrameParsesWrongFalsely : Prop := frameParsesRow.holds Tryd.pinned (OpenSpec.ofChange frameParsesWrong)

/-- 'stairwelllaw07.FrameShort': WHATEVER THE INPUT: true; the input reads as it did. -/
def frameShortSpec : ChangeSpec := { name := "frameShort", fn := fun _ => fun
  | [d1, d2] => { results := [.lit (.bool true)], args := [d1, d2] }
  | _ => none }
def frameShortRow : OpenClaim := { program := "ytecgedbabcdfkaadoor", sum := "c6122a414775526779a67369e17107d790a5eb3f0725282e9d9629eeeee2a05a", func := "stairwell/stairwelllaw07.FrameShort", spec := "frameShort", named := ["stairwell/crc.laid"], apart := false, laid := [("stairwell/crc.laid", laid_stairwell_crc_laid)] }
def FrameShortSaid : Prop := frameShortRow.holds Tryd.pinned (OpenSpec.ofChange frameShortSpec)

/-- ITS FALSE NEIGHBOUR: 'it returns false'. Refute it at one input. -/
def frameShortWrong : ChangeSpec := { name := "frameShort", fn := fun _ => fun
  | [d1, d2] => { results := [.lit (.bool false)], args := [d1, d2] }
  | _ => none }
def FrameShortWrongFalsely : Prop := frameShortRow.holds Tryd.pinned (OpenSpec.ofChange frameShortWrong)

/-- 'stairwelllaw07.FrameTurned': WHATEVER THE INPUT: true; the input reads as it did. -/
def frameTurnedSpec : ChangeSpec := { name := "frameTurned", fn := fun _ => fun
  | [d1, d2, d3] => { results := [.lit (.bool true)], args := [d1, d2, d3] }
  | _ => none }
def frameTurnedRow : OpenClaim := { program := "ytecgedbabcdfkaadoor", sum := "c6122a414775526779a67369e17107d790a5eb3f0725282e9d9629eeeee2a05a", func := "stairwell/stairwelllaw07.FrameTurned", spec := "frameTurned", named := ["stairwell/crc.laid"], apart := false, laid := [("stairwell/crc.laid", laid_stairwell_crc_laid)] }
def FrameTurnedSaid : Prop := frameTurnedRow.holds Tryd.pinned (OpenSpec.ofChange frameTurnedSpec)

/-- ITS FALSE NEIGHBOUR: 'it returns false'. Refute it at one input. -/
def frameTurnedWrong : ChangeSpec := { name := "frameTurned", fn := fun _ => fun
  | [d1, d2, d3] => { results := [.lit (.bool false)], args := [d1, d2, d3] }
  | _ => none }
def FrameTurnedWrongFalsely : Prop := frameTurnedRow.holds Tryd.pinned (OpenSpec.ofChange frameTurnedWrong)

/-- 'stairwelllaw08.FeedTakes': WHATEVER THE INPUT: true; the input reads as it did. -/
def feedTakesSpec : ChangeSpec := { name := "feedTakes", fn := fun _ => fun
  | [d] => { results := [.lit (.bool true)], args := [d] }
  | _ => none }
def feedTakesRow : OpenClaim := { program := "ytecgedbabcdfkaadoor", sum := "c6122a414775526779a67369e17107d790a5eb3f0725282e9d9629eeeee2a05a", func := "stairwell/stairwelllaw08.FeedTakes", spec := "feedTakes", unfollowed := true, recurses := true, named := ["stairwell/crc.laid"], apart := false, laid := [("stairwell/crc.laid", laid_stairwell_crc_laid)] }
def FeedTakesSaid : Prop := feedTakesRow.holds Tryd.pinned (OpenSpec.ofChange feedTakesSpec)

/-- ITS FALSE NEIGHBOUR: 'it returns false'. Refute it at one input. -/
def feedTakesWrong : ChangeSpec := { name := "feedTakes", fn := fun _ => fun
  | [d] => { results := [.lit (.bool false)], args := [d] }
  | _ => none }
def FeedTakesWrongFalsely : Prop := feedTakesRow.holds Tryd.pinned (OpenSpec.ofChange feedTakesWrong)

/-- 'stairwelllaw08.FeedCuts': WHATEVER THE INPUT: true; the input reads as it did. -/
def feedCutsSpec : ChangeSpec := { name := "feedCuts", fn := fun _ => fun
  | [d1, d2] => { results := [.lit (.bool true)], args := [d1, d2] }
  | _ => none }
def feedCutsRow : OpenClaim := { program := "ytecgedbabcdfkaadoor", sum := "c6122a414775526779a67369e17107d790a5eb3f0725282e9d9629eeeee2a05a", func := "stairwell/stairwelllaw08.FeedCuts", spec := "feedCuts", unfollowed := true, recurses := true, named := ["stairwell/crc.laid"], apart := false, laid := [("stairwell/crc.laid", laid_stairwell_crc_laid)] }
def FeedCutsSaid : Prop := feedCutsRow.holds Tryd.pinned (OpenSpec.ofChange feedCutsSpec)

/-- ITS FALSE NEIGHBOUR: 'it returns false'. Refute it at one input. -/
def feedCutsWrong : ChangeSpec := { name := "feedCuts", fn := fun _ => fun
  | [d1, d2] => { results := [.lit (.bool false)], args := [d1, d2] }
  | _ => none }
def FeedCutsWrongFalsely : Prop := feedCutsRow.holds Tryd.pinned (OpenSpec.ofChange feedCutsWrong)

/-- 'stairwelllaw08.FeedFrames': WHATEVER THE INPUT: true; the input reads as it did. -/
def feedFramesSpec : ChangeSpec := { name := "feedFrames", fn := fun _ => fun
  | [d] => { results := [.lit (.bool true)], args := [d] }
  | _ => none }
def feedFramesRow : OpenClaim := { program := "ytecgedbabcdfkaadoor", sum := "c6122a414775526779a67369e17107d790a5eb3f0725282e9d9629eeeee2a05a", func := "stairwell/stairwelllaw08.FeedFrames", spec := "feedFrames", unfollowed := true, recurses := true, named := ["stairwell/crc.laid"], apart := false, laid := [("stairwell/crc.laid", laid_stairwell_crc_laid)] }
def FeedFramesSaid : Prop := feedFramesRow.holds Tryd.pinned (OpenSpec.ofChange feedFramesSpec)

/-- ITS FALSE NEIGHBOUR: 'it returns false'. Refute it at one input. -/
def feedFramesWrong : ChangeSpec := { name := "feedFrames", fn := fun _ => fun
  | [d] => { results := [.lit (.bool false)], args := [d] }
  | _ => none }
def FeedFramesWrongFalsely : Prop := feedFramesRow.holds Tryd.pinned (OpenSpec.ofChange feedFramesWrong)

/- THE SECOND FORM. 'bulk': how many values and letters a reading holds, each counted each time it is reached (what is shared counts as often as it is met; a slice's spare places count too). A statement '..UptoSaid' is the law's where the arguments, and the package variables that the reading takes, are together of bulk at most 1048576: NARROWER than '..Said'. Prove '..Said' where nothing that the law and all that it calls make is longer than what came in: it says more and counts as full. Else prove '..UptoSaid'. A law counts once. -/
mutual
def uptoBulk {H : Type} : DataW H → Nat
  | .lit (.string bytes) => bytes.length + 1
  | .lit _ => 1
  | .nil => 1
  | .ptr d => uptoBulk d + 1
  | .slice elems spare => uptoBulkAll elems + uptoBulkAll spare + 1
  | .agg parts => uptoBulkAll parts + 1
  | .iface _ d => uptoBulk d + 1
  | .map entries => uptoBulkEntries entries + 1
  | .held _ => 1
def uptoBulkAll {H : Type} : List (DataW H) → Nat
  | [] => 0
  | d :: r => uptoBulk d + uptoBulkAll r
def uptoBulkEntries {H : Type} : List (Lit × DataW H) → Nat
  | [] => 0
  | x :: r => uptoBulkEntry x + uptoBulkEntries r
def uptoBulkEntry {H : Type} : Lit × DataW H → Nat
  | (.string bytes, d) => bytes.length + uptoBulk d + 1
  | (_, d) => uptoBulk d + 1
 end
def uptoSmall : (H : Type) → List (DataW H) → Bool := fun _ ds => decide (uptoBulkAll ds ≤ 1048576)
def OpenSpec.upto (s : _root_.Go.ChangeSpec) : _root_.Go.OpenSpec := { _root_.Go.OpenSpec.ofChange s with cond := some uptoSmall }

/-- 'stairwelllaw07.FrameBytes', WHERE WHAT IT READS IS OF BULK AT MOST 1048576: true; the input reads as it did. -/
def frameBytesUptoRow : OpenClaim := { program := "ytecgedbabcdfkaadoor", sum := "c6122a414775526779a67369e17107d790a5eb3f0725282e9d9629eeeee2a05a", func := "stairwell/stairwelllaw07.FrameBytes", spec := "frameBytes", inPlace := ["internal/abi.NoEscape", "internal/bytealg.MakeNoZero"], recurses := true, named := ["stairwell/crc.laid"], apart := false, laid := [("stairwell/crc.laid", laid_stairwell_crc_laid)], narrowed := true }
def FrameBytesUptoSaid : Prop := frameBytesUptoRow.holds Tryd.pinned (OpenSpec.upto frameBytesSpec)

/-- 'stairwelllaw07.FrameParses', WHERE WHAT IT READS IS OF BULK AT MOST 1048576: true; the input reads as it did. -/
def frameParsesUptoRow : OpenClaim := { program := "ytecgedbabcdfkaadoor", sum := "c6122a414775526779a67369e17107d790a5eb3f0725282e9d9629eeeee2a05a", func := "stairwell/stairwelllaw07.FrameParses", spec := "frameParses", recurses := true, named := ["stairwell/crc.laid"], apart := false, laid := [("stairwell/crc.laid", laid_stairwell_crc_laid)], narrowed := true }
def FrameParsesUptoSaid : Prop := frameParsesUptoRow.holds Tryd.pinned (OpenSpec.upto frameParsesSpec)

/-- 'stairwelllaw07.FrameShort', WHERE WHAT IT READS IS OF BULK AT MOST 1048576: true; the input reads as it did. -/
def frameShortUptoRow : OpenClaim := { program := "ytecgedbabcdfkaadoor", sum := "c6122a414775526779a67369e17107d790a5eb3f0725282e9d9629eeeee2a05a", func := "stairwell/stairwelllaw07.FrameShort", spec := "frameShort", named := ["stairwell/crc.laid"], apart := false, laid := [("stairwell/crc.laid", laid_stairwell_crc_laid)], narrowed := true }
def FrameShortUptoSaid : Prop := frameShortUptoRow.holds Tryd.pinned (OpenSpec.upto frameShortSpec)

/-- 'stairwelllaw07.FrameTurned', WHERE WHAT IT READS IS OF BULK AT MOST 1048576: true; the input reads as it did. -/
def frameTurnedUptoRow : OpenClaim := { program := "ytecgedbabcdfkaadoor", sum := "c6122a414775526779a67369e17107d790a5eb3f0725282e9d9629eeeee2a05a", func := "stairwell/stairwelllaw07.FrameTurned", spec := "frameTurned", named := ["stairwell/crc.laid"], apart := false, laid := [("stairwell/crc.laid", laid_stairwell_crc_laid)], narrowed := true }
def FrameTurnedUptoSaid : Prop := frameTurnedUptoRow.holds Tryd.pinned (OpenSpec.upto frameTurnedSpec)

/-- 'stairwelllaw08.FeedTakes', WHERE WHAT IT READS IS OF BULK AT MOST 1048576: true; the input reads as it did. -/
def feedTakesUptoRow : OpenClaim := { program := "ytecgedbabcdfkaadoor", sum := "c6122a414775526779a67369e17107d790a5eb3f0725282e9d9629eeeee2a05a", func := "stairwell/stairwelllaw08.FeedTakes", spec := "feedTakes", unfollowed := true, recurses := true, named := ["stairwell/crc.laid"], apart := false, laid := [("stairwell/crc.laid", laid_stairwell_crc_laid)], narrowed := true }
def FeedTakesUptoSaid : Prop := feedTakesUptoRow.holds Tryd.pinned (OpenSpec.upto feedTakesSpec)

/-- 'stairwelllaw08.FeedCuts', WHERE WHAT IT READS IS OF BULK AT MOST 1048576: true; the input reads as it did. -/
def feedCutsUptoRow : OpenClaim := { program := "ytecgedbabcdfkaadoor", sum := "c6122a414775526779a67369e17107d790a5eb3f0725282e9d9629eeeee2a05a", func := "stairwell/stairwelllaw08.FeedCuts", spec := "feedCuts", unfollowed := true, recurses := true, named := ["stairwell/crc.laid"], apart := false, laid := [("stairwell/crc.laid", laid_stairwell_crc_laid)], narrowed := true }
def FeedCutsUptoSaid : Prop := feedCutsUptoRow.holds Tryd.pinned (OpenSpec.upto feedCutsSpec)

/-- 'stairwelllaw08.FeedFrames', WHERE WHAT IT READS IS OF BULK AT MOST 1048576: true; the input reads as it did. -/
def feedFramesUptoRow : OpenClaim := { program := "ytecgedbabcdfkaadoor", sum := "c6122a414775526779a67369e17107d790a5eb3f0725282e9d9629eeeee2a05a", func := "stairwell/stairwelllaw08.FeedFrames", spec := "feedFrames", unfollowed := true, recurses := true, named := ["stairwell/crc.laid"], apart := false, laid := [("stairwell/crc.laid", laid_stairwell_crc_laid)], narrowed := true }
def FeedFramesUptoSaid : Prop := feedFramesUptoRow.holds Tryd.pinned (OpenSpec.upto feedFramesSpec)

end Rows
end Go.Proofs.YtecgedbabcdfkaaDoor
