/-
  TWO LABELS HELD AGAINST EACH OTHER.
-/
import Derived.Test.YtokljdaofjgihaaGreatDoorLatUnder
import Derived.Deep.RegionHeld3
import Derived.Laws.StructEq
namespace Go.Proofs.YtokljdaofjgihaaGreatDoor
open Go.ChangeShapes Go.WideShapes Go.ChangeAt Go.RowKit
theorem guard24 : Tryz.prog.eqGuardType Tryz.prog.depth 70 = false := by kernel_rfl
theorem stood24 : Tryz.prog.stoodInHeld 70 = false := by kernel_rfl
theorem fields24 : Tryz.prog.fieldsOf 70 = #[⟨"Level", 5, 0, false, "", "", 0⟩, ⟨"Set", 68, 1, false, "", "", 4⟩] := by kernel_rfl
theorem lab_eql (al sa bl sb : Int) (W : World) : (Op.equalIn 10000 70 (.agg #[.int .u8 al, .int .u32 sa]) (.agg #[.int .u8 bl, .int .u32 sb])).run Tryz.prog W = .ok ((al == bl) && (sa == sb)) W := by
  rw [run_equalIn_agg (ht := by kernel_rfl) (hp := stood24), fields24]
  simp [Op.eqFields, go_sem, Tryz.underlying5, Tryz.underlying68]
  by_cases h1 : al = bl <;> by_cases h2 : sa = sb <;> simp [h1, h2]
end Go.Proofs.YtokljdaofjgihaaGreatDoor
