/-
  WHOLE STRUCTS in a block of one's own: loaded, stored; deeds among them.
-/
import Derived.Test.YtgponfdcagnhhaaGreatDoorDl41
import Derived.Deep.MidRow
import Derived.Deep.WholeRow
import Derived.Lib.BufferRead
section
namespace Go.Proofs.YtgponfdcagnhhaaGreatDoor
open Go.ChangeShapes Go.WideShapes Go.ChangeAt Go.RowKit
theorem Cels.range {W : World} {q : Nat} {xs : List Value} (h : Cels W q xs) : W.rangeAt q 0 xs := fun j v hj => by rw [Nat.zero_add]; exact h j v hj
theorem BoxC.there {w W : World} {c : Nat} {xs : List Value} (h : BoxC w c xs W) : W.there c 0 xs.length := fun j hj => by
  rw [Nat.zero_add]
  exact ⟨by rw [h.cs j xs[j] (List.getElem?_eq_getElem hj)]; rfl, h.s j⟩
end Go.Proofs.YtgponfdcagnhhaaGreatDoor
end
