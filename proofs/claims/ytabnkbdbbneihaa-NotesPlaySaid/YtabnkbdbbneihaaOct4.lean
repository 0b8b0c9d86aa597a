/-
  OCTET's LAST CALLS, walked: the error of what is written; the end of what is read.
-/
import Derived.Test.YtabnkbdbbneihaaOct3
namespace Go.Proofs.Ytabnkbdbbneihaa
open Go.ChangeShapes Go.WideShapes Go.ChangeAt Go.RowKit
attribute [local go_sem ↓] Go.wp_at_zero Go.wp_at_succ
def endOf (r : ByteArray) (e : Int) : Int := if 0 < r.size then 4 else e
set_option maxHeartbeats 400000 in
theorem end_any (b : Nat) (r : ByteArray) (e : Int) (w : World) (h : InAt b r e w) :
    Calls Try.prog 20 #[.pointer (some ⟨b, 0, none⟩)] w fun x w' => x = .returned (.int .i64 (endOf r e)) ∧ w = w' := by
  have HL := Lib.hid (left_any b r e w h)
  have HE := Lib.hid (err_any b r e w h)
  clear h
  by_cases h0 : 0 < r.size
  · have HO : Hid (endOf r e = 4) := by unfold endOf; rw [if_pos h0]; exact (rfl : _ = _)
    go_enter Try.func20, Try.ntmps20
    go_wp2_with (go_at_call 23; refine HL.out.mono ?_; rintro x w' ⟨rfl, rfl⟩)
    go_ret
    exact ⟨ret_int (by rw [HO.out]), rfl⟩
  · have HO : Hid (endOf r e = e) := by unfold endOf; rw [if_neg h0]; exact (rfl : _ = _)
    go_enter Try.func20, Try.ntmps20
    go_wp2_with (first | (go_at_call 23; refine HL.out.mono ?_; rintro x w' ⟨rfl, rfl⟩) | (go_at_call 22; refine HE.out.mono ?_; rintro x w' ⟨rfl, rfl⟩))
    go_ret
    exact ⟨ret_int (by rw [HO.out]), rfl⟩
theorem iend_l (b : Nat) (s : LSt) (w : World) (h : InL b s w) :
    Calls Try.prog 20 #[.pointer (some ⟨b, 0, none⟩)] w fun x w' => x = .returned (.int .i64 (lEnd s)) ∧ w = w' := by
  have := end_any b (ofL s.1) s.2 w h
  have e : endOf (ofL s.1) s.2 = lEnd s := by unfold endOf lEnd; rw [ofL_size]
  rw [e] at this
  exact this
end Go.Proofs.Ytabnkbdbbneihaa
