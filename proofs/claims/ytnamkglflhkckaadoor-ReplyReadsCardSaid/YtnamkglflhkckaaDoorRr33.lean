/-
  WHAT STANDS BEHIND ALL THAT WAS READ (the document's reader): walked.
-/
import Derived.Test.YtnamkglflhkckaaDoorRr25
import Derived.BigQuiet
section
namespace Go.Proofs.YtnamkglflhkckaaDoor
open Go.ChangeShapes Go.WideShapes Go.ChangeAt Go.RowKit
set_option maxHeartbeats 2000000 in
theorem riend_l (b : Nat) (S : ByteArray) (s : LSt) (w : World) (h : RefL b S s w) :
    Calls Tryd.prog 43 #[.pointer (some ⟨b, 0, none⟩)] w (Quiet w (.int .i64 (lEnd s))) := by
  obtain ⟨p, h⟩ := h
  have c0 := h.c0
  have c1 := h.c1
  have c2 : w.cell? ⟨b, 2, none⟩ = some (.int .i64 s.2) := h.c2
  have hle := h.le
  by_cases h0 : s.2 = 0
  · have hz : ((ofL s.1).size : Int) = (S.size : Int) - (p : Int) := h.size h0
    rw [ofL_size] at hz
    rw [h0] at c2
    by_cases hlt : p < S.size
    · have HE := Lib.hid (show lEnd s = 4 by unfold lEnd; rw [if_pos (by omega)])
      have hd : decide (p < S.size) = true := decide_eq_true hlt
      clear h h0 hz
      go_enter Tryd.func43, Tryd.ntmps43
      go_wp2_with fail
      go_quiet (fail)
      go_wp2_with fail
      go_ret
      exact ⟨ret_int (by rw [HE.out]), _, rfl⟩
    · have HE := Lib.hid (show lEnd s = 0 by unfold lEnd; rw [if_neg (by omega), h0])
      have hd : decide (p < S.size) = false := decide_eq_false hlt
      clear h h0 hz
      go_enter Tryd.func43, Tryd.ntmps43
      go_wp2_with fail
      go_quiet (fail)
      go_wp2_with fail
      go_ret
      exact ⟨ret_int (by rw [HE.out]), _, rfl⟩
  · have hnil : (ofL s.1).size = 0 := by
      have := h.ok h0
      rw [show ofL s.1 = ByteArray.empty from this]; rfl
    rw [ofL_size] at hnil
    have HE := Lib.hid (show lEnd s = s.2 by unfold lEnd; rw [if_neg (by omega)])
    have k0 : (s.2 == 0) = false := beq_eq_false_iff_ne.2 h0
    clear h h0 hnil
    go_enter Tryd.func43, Tryd.ntmps43
    go_wp2_with fail
    go_quiet (fail)
    go_wp2_with fail
    go_ret
    exact ⟨ret_int (by rw [HE.out]), _, rfl⟩
end Go.Proofs.YtnamkglflhkckaaDoor
end
