/-
  AN EXCHANGE MORE, the document's: walked.
-/
import Derived.Test.YtecjngodfciokaaGreatDoorDp26
import Derived.Deep.QuietTactic
section
namespace Go.Proofs.YtecjngodfciokaaGreatDoor
open Go.ChangeShapes Go.WideShapes Go.ChangeAt Go.RowKit
theorem guardRSh : Tryz.prog.eqGuardType Tryz.prog.depth 45 = false := by kernel_rfl
theorem stoodRSh : Tryz.prog.stoodInHeld 45 = false := by kernel_rfl
theorem fieldsRSh : Tryz.prog.fieldsOf 45 = #[⟨"Name", 9, 0, false, "", "", 0⟩, ⟨"Sort", 5, 1, false, "", "", 16⟩, ⟨"To", 9, 2, false, "", "", 24⟩] := by kernel_rfl
theorem rsh_eql (a : ByteArray) (b : Int) (d : ByteArray) (a' : ByteArray) (b' : Int) (d' : ByteArray) (W : World) : (Op.equalIn 10000 45 (.agg #[.string a, .int .u8 b, .string d]) (.agg #[.string a', .int .u8 b', .string d'])).run Tryz.prog W = .ok ((a.toList == a'.toList) && (b == b') && (d.toList == d'.toList)) W := by
  rw [run_equalIn_agg (ht := by kernel_rfl) (hp := stoodRSh), fieldsRSh]
  simp [Op.eqFields, go_sem, Tryz.underlying5, Tryz.underlying9]
  by_cases h1 : a.toList = a'.toList <;> by_cases h2 : b = b' <;> by_cases h4 : d.toList = d'.toList <;> simp [h1, h2, h4]
theorem rsh_eq (x y : Sh) (W : World) : (Op.equalIn 10000 45 (.agg #[.string (ofL x.name), .int .u8 (x.sort : Int), .string (ofL x.to)]) (.agg #[.string (ofL y.name), .int .u8 (y.sort : Int), .string (ofL y.to)])).run Tryz.prog W = .ok (decide (x = y)) W := by
  rw [← shEq_dec, ← sh_bool]
  exact rsh_eql _ _ _ _ _ _ W
attribute [local go_sem] guardRSh
end Go.Proofs.YtecjngodfciokaaGreatDoor
end
