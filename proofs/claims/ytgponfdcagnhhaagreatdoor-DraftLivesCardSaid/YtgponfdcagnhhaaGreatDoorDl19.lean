/-
  THE WORDS BETWEEN POINTS, walked: the program's and the document's.
-/
import Derived.Test.YtgponfdcagnhhaaGreatDoorDl04
import Derived.Test.YtgponfdcagnhhaaGreatDoorDl14
import Derived.Test.YtgponfdcagnhhaaGreatDoorShelfWords
import Derived.Lib.SplitLaws
import Derived.Test.YtgponfdcagnhhaaGreatDoorRows
section
namespace Go.Proofs.YtgponfdcagnhhaaGreatDoor
open Go.ChangeShapes Go.WideShapes Go.ChangeAt Go.RowKit
/-! ### the library's pieces are the words -/
/-- the library's own bound lies -/
def Len (w : World) : Prop := ∃ m, w.cell? ⟨0, 0, none⟩ = some (.int .i64 m)
theorem Len.pos {w : World} (h : Len w) : 0 < w.heap.size := by
  obtain ⟨m, hm⟩ := h
  exact World.block_lt_of_cell? w _ hm
theorem Len.below {w w' : World} {B : Nat} (h : Len w) (hb : Below B w w') (hB : 0 < B) : Len w' := by
  obtain ⟨m, hm⟩ := h
  exact ⟨m, (hb.cell (p := ⟨0, 0, none⟩) hB).trans hm⟩
theorem Len.on {w w' : World} (h : Len w) (hb : Below w.heap.size w w') : Len w' := h.below hb h.pos
end Go.Proofs.YtgponfdcagnhhaaGreatDoor
end
