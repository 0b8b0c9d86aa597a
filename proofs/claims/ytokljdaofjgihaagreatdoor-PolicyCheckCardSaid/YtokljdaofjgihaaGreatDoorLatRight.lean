/-
  MAY A LABEL BE: walked.
-/
import Derived.Test.YtokljdaofjgihaaGreatDoorLatDigits
namespace Go.Proofs.YtokljdaofjgihaaGreatDoor
open Go.ChangeShapes Go.WideShapes Go.ChangeAt Go.RowKit

theorem right_any (al sa : Nat) (w : World) :
    Calls Tryz.prog 98 #[.agg #[.int .u8 (al : Int), .int .u32 (sa : Int)]] w fun e w' => e = .returned (.bool (decide (al ≤ 15))) ∧ Below w.heap.size w w' := by
  have H := Lib.hid (show decide ((al : Int) ≤ 15) = decide (al ≤ 15) by rw [Bool.eq_iff_iff]; simp only [decide_eq_true_eq]; omega)
  go_enter Tryz.func98, Tryz.ntmps98
  go_wp2
  go_ret
  exact ⟨ret_bool H.out, (Below.refl _ _).alloc (Nat.le_refl _) _⟩
end Go.Proofs.YtokljdaofjgihaaGreatDoor
