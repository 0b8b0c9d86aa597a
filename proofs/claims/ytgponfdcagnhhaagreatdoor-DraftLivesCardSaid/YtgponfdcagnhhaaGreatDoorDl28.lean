/-
  A MESSAGE's COPY; THE CHAPTER's EXAMPLE: walked.
-/
import Derived.Test.YtgponfdcagnhhaaGreatDoorDl22
import Derived.Test.YtgponfdcagnhhaaGreatDoorDl24
import Derived.Test.YtgponfdcagnhhaaGreatDoorDl27

section
namespace Go.Proofs.YtgponfdcagnhhaaGreatDoor
open Go.ChangeShapes Go.WideShapes Go.ChangeAt Go.RowKit
/-- the chapter's example -/
def exMl : Ml := ⟨0, [97], [], [], [], 0, 0⟩
theorem exMl_code : exMl.code = 0 := by decide
theorem exMl_len : exMl.enc.length = 25 := by decide
theorem ex13_bytes (w : World) (hL : Len w) : Calls Tryz.prog 62 #[.agg #[.int .u64 0, .string ⟨#[97]⟩, .string ⟨#[]⟩, .slice none 0 0, .string ⟨#[]⟩, .int .u64 0, .int .u8 0]] w fun e w' => e = .returned (.tuple #[.string (ofL exMl.enc), .int .i64 0]) ∧ Below w.heap.size w w' := by
  have h := maBytes_any exMl none 0 w ⟨by decide, by decide, by decide, by decide, by decide, lite_nil, Prs.nil _ _⟩ ⟨by decide, by decide, by decide, fun p hp => absurd hp (by simp [exMl])⟩ hL
  rw [show maBytesV exMl = .tuple #[.string (ofL exMl.enc), .int .i64 0] by unfold maBytesV; rw [if_pos exMl_code]] at h
  exact h
theorem ml_law9Awake (w : World) (hL : Len w) : Calls Tryz.prog 69 #[] w fun e w' => e = .returned (.bool true) ∧ Below w.heap.size w w' := by
  have HA := Lib.hid (awake9_any w hL)
  go_enter Tryz.func69, Tryz.ntmps69
  go_wp2_with fail
  refine HA.out.mono ?_
  rintro x w1 ⟨rfl, b1⟩
  have B1 := Lib.hid b1
  clear b1
  go_wp2_with fail
  go_ret
  exact ⟨rfl, B1.out⟩
set_option maxHeartbeats 1000000 in
theorem awake13_any (w : World) (hL : Len w) : Calls Tryz.prog 53 #[] w fun e w' => e = .returned (.bool true) ∧ Below w.heap.size w w' := by
  have HL := Lib.hid hL
  have HX := Lib.hid (ex13_bytes w hL)
  have hz : (ofL exMl.enc).size = 25 := by rw [ofL_size, exMl_len]
  clear hL
  generalize ofL exMl.enc = E at *
  go_enter Tryz.func53, Tryz.ntmps53
  go_wp2_with fail
  refine HX.out.mono ?_
  rintro e w1 ⟨rfl, b1⟩
  have HL1 := Lib.hid (HL.out.on b1)
  have HB1 := Lib.hid b1
  clear b1
  go_wp2_with fail
  refine (ml_law9Awake _ HL1.out).mono ?_
  rintro e w2 ⟨rfl, b2⟩
  have HB2 := Lib.hid (bthen HB1.out b2 (Nat.le_refl _))
  clear b2
  go_wp2_with fail
  go_ret
  exact ⟨rfl, HB2.out⟩
end Go.Proofs.YtgponfdcagnhhaaGreatDoor
end
