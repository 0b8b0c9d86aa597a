/-
  WHAT COMES IN, opened: numbers and bytes. What all rows ask of the program alike. THE SUM's TABLE, as a listed variable: what the rows say of it; a world for the witness.
-/
import Derived.Test.YtgaggelpjaiabaaGreatDoorSp24
import Derived.Test.YtgaggelpjaiabaaGreatDoorRows
import Derived.WalkKit
import Derived.ProofKit
import Derived.OpenShut
import Derived.Deep.DeepHandedRow
import Derived.Laws.IdiomArrays
import Derived.Lib.SmallJoins
section
namespace Go.Proofs.YtgaggelpjaiabaaGreatDoor
open Go.ChangeShapes Go.WideShapes Go.ChangeAt Go.RowKit
theorem own : ownKnob Tryz.prog.godebug = none := by kernel_rfl
theorem nat_of_u16 {n : Int} (h : (Lit.int .u16 n).wf = true) : ∃ k : Nat, n = (k : Int) ∧ k < 65536 := by
  have hx : 0 ≤ n ∧ n ≤ 65535 := by simpa [Lit.wf, IntKind.min, IntKind.max, IntKind.signed, IntKind.bits] using h
  exact ⟨n.toNat, by omega, by omega⟩
end Go.Proofs.YtgaggelpjaiabaaGreatDoor
end
section
namespace Go.Proofs.YtgaggelpjaiabaaGreatDoor
open Go.ChangeShapes Go.WideShapes Go.ChangeAt Go.RowKit
theorem gTab : Tryz.prog.globalNamed "stairwell/crc.laid" = some 0 := by kernel_rfl
theorem gTabType : (Tryz.prog.globals[(0 : Nat)]?).map (·.type) = some 209 := by kernel_rfl
theorem cells16 : Tryz.prog.cellsOf 209 = 16 := by kernel_rfl
theorem cells32 : Tryz.prog.cellsOf 158 = 1 := by kernel_rfl
theorem tab_of {W : World} (h : laidMetH Tryz.prog [("stairwell/crc.laid", Rows.laid_stairwell_crc_laid)] W) : Tab W :=
  have t : Lib.TabIs Tryz.prog W "stairwell/crc.laid" .u32 Crc.table := Lib.tabIs_of_head (rest := []) gTab gTabType Tryz.underlying209 Tryz.underlying158 cells32 cells16 h
  fun i hi => t.cell gTab i (by simpa [Crc.table] using hi)
/-- the table's block, filled -/
def crcFilled : Obj → Obj
  | .cells _ t frozen => .cells #[.int .u32 0, .int .u32 498536548, .int .u32 997073096, .int .u32 651767980, .int .u32 1994146192, .int .u32 1802195444, .int .u32 1303535960, .int .u32 1342533948, .int .u32 3988292384, .int .u32 4027552580, .int .u32 3604390888, .int .u32 3412177804, .int .u32 2607071920, .int .u32 2262029012, .int .u32 2685067896, .int .u32 3183342108] t frozen
  | o => o
end Go.Proofs.YtgaggelpjaiabaaGreatDoor
end
