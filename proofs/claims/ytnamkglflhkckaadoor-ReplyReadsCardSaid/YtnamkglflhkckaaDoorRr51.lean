/-
  WHAT COMES IN, opened: numbers and bytes. What all rows ask of the program alike. A FRAME that comes in, opened. THE SUM's TABLE, as a listed variable: what the rows say of it; a world for the witness.
-/
import Derived.Test.YtnamkglflhkckaaDoorRr03
import Derived.Test.YtnamkglflhkckaaDoorRr42
import Derived.Test.YtnamkglflhkckaaDoorRows
import Derived.WalkKit
import Derived.ProofKit
import Derived.OpenShut
import Derived.Deep.DeepHandedRow
import Derived.Laws.IdiomArrays
import Derived.Lib.SmallJoins
section
namespace Go.Proofs.YtnamkglflhkckaaDoor
open Go.ChangeShapes Go.WideShapes Go.ChangeAt Go.RowKit
theorem own : ownKnob Tryd.prog.godebug = none := by kernel_rfl
theorem laidOut : laidOutB Tryd.prog = true := by kernel_rfl
theorem byte_of_u8 {n : Int} (h : (Lit.int .u8 n).wf = true) : ∃ b : UInt8, n = ((b.toNat : Nat) : Int) := by
  have hx : 0 ≤ n ∧ n ≤ 255 := by simpa [Lit.wf, IntKind.min, IntKind.max, IntKind.signed, IntKind.bits] using h
  refine ⟨UInt8.ofNat n.toNat, ?_⟩
  simp only [UInt8.toNat_ofNat']
  omega
end Go.Proofs.YtnamkglflhkckaaDoor
end
section
namespace Go.Proofs.YtnamkglflhkckaaDoor
open Go.ChangeShapes Go.WideShapes Go.ChangeAt Go.RowKit
set_option maxRecDepth 100000 in
theorem frame_open {H : Type} {enc : TypeId × Value → H} {W : World} {base : Nat} {v : Value} {d : DataW H} {ps : List MemPlace} (hv : Value.okWide Tryd.prog W .any base 23 v)
    (h : DataW.Trod enc Tryd.prog W 0 (fun _ => true) true 23 v d ps) : ∃ (c k : UInt8) (b : List UInt8), b.length ≤ 9223372036854775807 ∧ v = .agg #[.int .u8 (c.toNat : Int), .int .u8 (k.toNat : Int), .string (ofL b)] := by
  obtain ⟨v0, v1, v2, y0, y1, y2, n, rfl, -, -, h0, h1, h2⟩ := Joins.open_agg3 Tryd.underlying23 (by kernel_rfl) (by kernel_rfl) hv h
  obtain ⟨x0, e0, rfl, w0⟩ := DataW.trod_int Tryd.underlying5 h0
  obtain ⟨x1, e1, rfl, w1⟩ := DataW.trod_int Tryd.underlying5 h1
  obtain ⟨s, e2, rfl, w2⟩ := DataW.trod_string Tryd.underlying9 h2
  simp at e0 e1 e2
  subst e0 e1 e2
  obtain ⟨c, rfl⟩ := byte_of_u8 w0
  obtain ⟨k, rfl⟩ := byte_of_u8 w1
  refine ⟨c, k, s.data.toList, ?_, by rw [ofL_toList]⟩
  have hz := ofL_size s.data.toList
  rw [ofL_toList] at hz
  unfold maxLen at w2
  omega
end Go.Proofs.YtnamkglflhkckaaDoor
end
section
namespace Go.Proofs.YtnamkglflhkckaaDoor
open Go.ChangeShapes Go.WideShapes Go.ChangeAt Go.RowKit
theorem gTab : Tryd.prog.globalNamed "stairwell/crc.laid" = some 0 := by kernel_rfl
theorem gTabType : (Tryd.prog.globals[(0 : Nat)]?).map (·.type) = some 131 := by kernel_rfl
theorem cells16 : Tryd.prog.cellsOf 131 = 16 := by kernel_rfl
theorem cells32 : Tryd.prog.cellsOf 121 = 1 := by kernel_rfl
theorem tab_of {W : World} (h : laidMetH Tryd.prog [("stairwell/crc.laid", Rows.laid_stairwell_crc_laid)] W) : Tab W :=
  have t : Lib.TabIs Tryd.prog W "stairwell/crc.laid" .u32 Crc.table := Lib.tabIs_of_head (rest := []) gTab gTabType Tryd.underlying131 Tryd.underlying121 cells32 cells16 h
  fun i hi => t.cell gTab i (by simpa [Crc.table] using hi)
/-- the table's block, filled -/
def crcFilled : Obj → Obj
  | .cells _ t frozen => .cells #[.int .u32 0, .int .u32 498536548, .int .u32 997073096, .int .u32 651767980, .int .u32 1994146192, .int .u32 1802195444, .int .u32 1303535960, .int .u32 1342533948, .int .u32 3988292384, .int .u32 4027552580, .int .u32 3604390888, .int .u32 3412177804, .int .u32 2607071920, .int .u32 2262029012, .int .u32 2685067896, .int .u32 3183342108] t frozen
  | o => o
end Go.Proofs.YtnamkglflhkckaaDoor
end
