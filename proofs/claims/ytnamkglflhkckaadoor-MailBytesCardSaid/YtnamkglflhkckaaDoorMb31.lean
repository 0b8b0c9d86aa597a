/-
  OCTET's LAST CALLS, walked: the error of what is written; the end of what is read. THE DOCUMENT's OWN READER, walked: it answers, and leaves, what the program's reader does.
-/
import Derived.Test.YtnamkglflhkckaaDoorMb05

section
namespace Go.Proofs.YtnamkglflhkckaaDoor
open Go.ChangeShapes Go.WideShapes Go.ChangeAt Go.RowKit
def endOf (r : ByteArray) (e : Int) : Int := if 0 < r.size then 4 else e
set_option maxHeartbeats 400000 in
theorem end_any (b : Nat) (r : ByteArray) (e : Int) (w : World) (h : InAt b r e w) :
    Calls Tryd.prog 27 #[.pointer (some ⟨b, 0, none⟩)] w fun x w' => x = .returned (.int .i64 (endOf r e)) ∧ w = w' := by
  have HL := Lib.hid (left_any b r e w h)
  have HE := Lib.hid (err_any b r e w h)
  clear h
  by_cases h0 : 0 < r.size
  · have HO : Hid (endOf r e = 4) := by unfold endOf; rw [if_pos h0]; exact (rfl : _ = _)
    go_enter Tryd.func27, Tryd.ntmps27
    go_wp2_with (go_at_call 30; refine HL.out.mono ?_; rintro x w' ⟨rfl, rfl⟩)
    go_ret
    exact ⟨ret_int (by rw [HO.out]), rfl⟩
  · have HO : Hid (endOf r e = e) := by unfold endOf; rw [if_neg h0]; exact (rfl : _ = _)
    go_enter Tryd.func27, Tryd.ntmps27
    go_wp2_with (first | (go_at_call 30; refine HL.out.mono ?_; rintro x w' ⟨rfl, rfl⟩) | (go_at_call 29; refine HE.out.mono ?_; rintro x w' ⟨rfl, rfl⟩))
    go_ret
    exact ⟨ret_int (by rw [HO.out]), rfl⟩
theorem iend_l (b : Nat) (s : LSt) (w : World) (h : InL b s w) :
    Calls Tryd.prog 27 #[.pointer (some ⟨b, 0, none⟩)] w fun x w' => x = .returned (.int .i64 (lEnd s)) ∧ w = w' := by
  have := end_any b (ofL s.1) s.2 w h
  have e : endOf (ofL s.1) s.2 = lEnd s := by unfold endOf lEnd; rw [ofL_size]
  rw [e] at this
  exact this
end Go.Proofs.YtnamkglflhkckaaDoor
end
section
namespace Go.Proofs.YtnamkglflhkckaaDoor
open Go.ChangeShapes Go.WideShapes Go.ChangeAt Go.RowKit
/-- the document's reader lies in block b: its text, its place, its error; beside what a reader has by then -/
structure RefAt (b : Nat) (s : ByteArray) (p : Nat) (st : St) (w : World) : Prop where
  c0 : w.cell? ⟨b, 0, none⟩ = some (.string s)
  c1 : w.cell? ⟨b, 1, none⟩ = some (.int .i64 (p : Int))
  c2 : w.cell? ⟨b, 2, none⟩ = some (.int .i64 st.2)
  fr : ∀ j, w.frozen? ⟨b, j, none⟩ = false
  lt : b < w.heap.size
  le : p ≤ s.size
  rest : st.2 = 0 → st.1 = s.extract p s.size
  ok : st.ok
def RefIs (b : Nat) (s : ByteArray) (st : St) (w : World) : Prop := ∃ p, RefAt b s p st w
theorem RefAt.code {b : Nat} {s : ByteArray} {p : Nat} {st : St} {w : World} (h : RefAt b s p st w) (c : Int) (hc : c ≠ 0) : RefAt b s p (ByteArray.empty, c) (w.setCell ⟨b, 2, none⟩ (.int .i64 c)) :=
  ⟨(World.cell?_setCell_other _ _ _ _ (ne_cell b 2 0 (by decide))).trans h.c0, (World.cell?_setCell_other _ _ _ _ (ne_cell b 2 1 (by decide))).trans h.c1, World.cell?_setCell_same _ _ _ h.c2,
    fun j => by rw [World.frozen?_setCell]; exact h.fr j, by have := h.lt; simp [World.setCell]; exact this, h.le, fun h0 => absurd h0 hc, fun _ => rfl⟩
theorem RefAt.drewN {b : Nat} {s : ByteArray} {p : Nat} {st : St} {w : World} (h : RefAt b s p st w) (n : Nat) : RefAt b s p st (w.drewN n) := ⟨h.c0, h.c1, h.c2, h.fr, h.lt, h.le, h.rest, h.ok⟩
theorem RefAt.size {b : Nat} {s : ByteArray} {p : Nat} {st : St} {w : World} (h : RefAt b s p st w) (h0 : st.2 = 0) : (st.1.size : Int) = (s.size : Int) - p := by
  rw [h.rest h0, ByteArray.size_extract]
  have := h.le
  omega

end Go.Proofs.YtnamkglflhkckaaDoor
end
