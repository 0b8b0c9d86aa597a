/-
  A HEAD's BYTES: the program's, walked.
-/
import Derived.Test.YtgponfdcagnhhaaGreatDoorDl29

section
namespace Go.Proofs.YtgponfdcagnhhaaGreatDoor
open Go.ChangeShapes Go.WideShapes Go.ChangeAt Go.RowKit
/-- an Out's box, in memory of one's own -/
structure OutB (w : World) (g : Nat) (x : List UInt8) (W : World) : Prop where
  c0 : W.cell? ⟨g, 0, none⟩ = some (.string (ofL x))
  c1 : W.cell? ⟨g, 1, none⟩ = some (.int .i64 0)
  fz : ∀ j, W.frozen? ⟨g, j, none⟩ = false
  lt : g < W.heap.size
  ge : w.heap.size ≤ g
  B : Below w.heap.size w W
theorem OutB.on {w : World} {g : Nat} {x : List UInt8} {W W' : World} (h : OutB w g x W) (hb : Below W.heap.size W W') : OutB w g x W' :=
  ⟨(hb.cell (p := ⟨g, 0, none⟩) h.lt).trans h.c0, (hb.cell (p := ⟨g, 1, none⟩) h.lt).trans h.c1, fun j => (hb.frozen (p := ⟨g, j, none⟩) h.lt).trans (h.fz j), Nat.lt_of_lt_of_le h.lt hb.size, h.ge, bthen h.B hb (Nat.le_refl _)⟩
theorem OutB.put {w : World} {g : Nat} {x : List UInt8} {W : World} (h : OutB w g x W) (y : List UInt8) : OutB w g y ((W.setCell ⟨g, 0, none⟩ (.string (ofL y))).setCell ⟨g, 1, none⟩ (.int .i64 0)) := by
  have hC : Cels W g [.string (ofL x), .int .i64 0] := fun j v hj => by
    match j, hj with
    | 0, hj => obtain rfl := Option.some.inj hj; exact h.c0
    | 1, hj => obtain rfl := Option.some.inj hj; exact h.c1
  have hD := (hC.put 0 (.string (ofL y)) (by simp)).put 1 (.int .i64 0) (by simp)
  exact ⟨hD 0 _ rfl, hD 1 _ rfl, fun j => ((Soft.put (Soft.put h.fz _ _) _ _) j), by simpa [World.setCell] using h.lt, h.ge, (h.B.setCell h.ge _).setCell h.ge _⟩
theorem OutB.new {w W : World} (h : Below w.heap.size w W) (x : List UInt8) (t : TypeId) : OutB w W.heap.size x (W.alloc (.cells #[.string (ofL x), .int .i64 0] t)) :=
  ⟨cell_new _ _ _ _ _ rfl, cell_new _ _ _ _ _ rfl, fun _ => free_new _ _ _ _ _ rfl, by simp, h.size, h.alloc h.size _⟩
end Go.Proofs.YtgponfdcagnhhaaGreatDoor
end
