/-
  WORDS IN MEMORY, as they are read.
-/
import Derived.Test.YtgponfdcagnhhaaGreatDoorDl19

section
namespace Go.Proofs.YtgponfdcagnhhaaGreatDoor
open Go.ChangeShapes Go.WideShapes Go.ChangeAt Go.RowKit
def Reads (w : World) (p : Option Addr) (ws : List (List UInt8)) : Prop := ∀ j (h : j < ws.length), ∃ g, p = some ⟨g, 0, none⟩ ∧ w.cell? ⟨g, j, none⟩ = some (.string (ofL ws[j]))
theorem Reads.on {w w' : World} {p : Option Addr} {ws : List (List UInt8)} (h : Reads w p ws) (hb : Below w.heap.size w w') : Reads w' p ws := by
  intro j hj
  obtain ⟨g, e, hc⟩ := h j hj
  refine ⟨g, e, ?_⟩
  rw [← hc]
  exact hb.cell (p := ⟨g, j, none⟩) (World.block_lt_of_cell? w _ hc)
end Go.Proofs.YtgponfdcagnhhaaGreatDoor
end
