/-
  THE SUM's TABLE, as a listed variable: what the rows say of it; a world for the witness.
-/
import Derived.Test.YtpdgadohfhmcnaaDoorCrcC
import Derived.Test.YtpdgadohfhmcnaaDoorOpenBase
namespace Go.Proofs.YtpdgadohfhmcnaaDoor
open Go.ChangeShapes Go.WideShapes Go.ChangeAt Go.RowKit
theorem gTab : Tryd.prog.globalNamed "stairwell/crc.laid" = some 0 := by kernel_rfl
theorem gTabType : (Tryd.prog.globals[(0 : Nat)]?).map (·.type) = some 78 := by kernel_rfl
theorem cells16 : Tryd.prog.cellsOf 78 = 16 := by kernel_rfl
theorem cells32 : Tryd.prog.cellsOf 61 = 1 := by kernel_rfl
theorem tab_of {W : World} (h : laidMetH Tryd.prog [("stairwell/crc.laid", Rows.laid_stairwell_crc_laid)] W) : Tab W :=
  have t : Lib.TabIs Tryd.prog W "stairwell/crc.laid" .u32 Crc.table := Lib.tabIs_of_head (rest := []) gTab gTabType Tryd.underlying78 Tryd.underlying61 cells32 cells16 h
  fun i hi => t.cell gTab i (by simpa [Crc.table] using hi)
/-- the table's block, filled -/
def crcFilled : Obj → Obj
  | .cells _ t frozen => .cells #[.int .u32 0, .int .u32 498536548, .int .u32 997073096, .int .u32 651767980, .int .u32 1994146192, .int .u32 1802195444, .int .u32 1303535960, .int .u32 1342533948, .int .u32 3988292384, .int .u32 4027552580, .int .u32 3604390888, .int .u32 3412177804, .int .u32 2607071920, .int .u32 2262029012, .int .u32 2685067896, .int .u32 3183342108] t frozen
  | o => o
end Go.Proofs.YtpdgadohfhmcnaaDoor
