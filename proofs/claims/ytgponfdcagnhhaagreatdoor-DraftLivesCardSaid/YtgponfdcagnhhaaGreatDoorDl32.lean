/-
  THE DOCUMENT's OWN READER, walked: it answers, and leaves, what the program's reader does.
-/
import Derived.Test.YtgponfdcagnhhaaGreatDoorDl06

section
namespace Go.Proofs.YtgponfdcagnhhaaGreatDoor
open Go.ChangeShapes Go.WideShapes Go.ChangeAt Go.RowKit
/-- the document's reader lies in block b: its text, its place, its error; beside what a reader has by then -/
structure RefAt (b : Nat) (s : ByteArray) (p : Nat) (st : St) (w : World) : Prop where
  c0 : w.cell? ⟨b, 0, none⟩ = some (.string s)
  c1 : w.cell? ⟨b, 1, none⟩ = some (.int .i64 (p : Int))
  c2 : w.cell? ⟨b, 2, none⟩ = some (.int .i64 st.2)
  fr : ∀ j, w.frozen? ⟨b, j, none⟩ = false
  lt : b < w.heap.size
  le : p ≤ s.size
  rest : st.2 = 0 → st.1 = s.extract p s.size
  ok : st.ok
def RefIs (b : Nat) (s : ByteArray) (st : St) (w : World) : Prop := ∃ p, RefAt b s p st w
theorem RefAt.code {b : Nat} {s : ByteArray} {p : Nat} {st : St} {w : World} (h : RefAt b s p st w) (c : Int) (hc : c ≠ 0) : RefAt b s p (ByteArray.empty, c) (w.setCell ⟨b, 2, none⟩ (.int .i64 c)) :=
  ⟨(World.cell?_setCell_other _ _ _ _ (ne_cell b 2 0 (by decide))).trans h.c0, (World.cell?_setCell_other _ _ _ _ (ne_cell b 2 1 (by decide))).trans h.c1, World.cell?_setCell_same _ _ _ h.c2,
    fun j => by rw [World.frozen?_setCell]; exact h.fr j, by have := h.lt; simp [World.setCell]; exact this, h.le, fun h0 => absurd h0 hc, fun _ => rfl⟩
theorem RefAt.size {b : Nat} {s : ByteArray} {p : Nat} {st : St} {w : World} (h : RefAt b s p st w) (h0 : st.2 = 0) : (st.1.size : Int) = (s.size : Int) - p := by
  rw [h.rest h0, ByteArray.size_extract]
  have := h.le
  omega

end Go.Proofs.YtgponfdcagnhhaaGreatDoor
end
