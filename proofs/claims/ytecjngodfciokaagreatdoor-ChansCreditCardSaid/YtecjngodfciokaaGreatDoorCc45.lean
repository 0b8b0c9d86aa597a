/-
  A BINDING MORE, the document's: walked.
-/
import Derived.Test.YtecjngodfciokaaGreatDoorCc25
import Derived.Test.YtecjngodfciokaaGreatDoorCc38
import Derived.Test.YtecjngodfciokaaGreatDoorCc44

section
namespace Go.Proofs.YtecjngodfciokaaGreatDoor
open Go.ChangeShapes Go.WideShapes Go.ChangeAt Go.RowKit
/-- three boxes of one's own, and that nothing older has changed -/
structure Bm (w : World) (X Y Z : List Value) (W : World) : Prop where
  bx : BoxC w w.heap.size X W
  bs : BoxC w (w.heap.size + 1) Y W
  bz : BoxC w (w.heap.size + 2) Z W
  B : Below w.heap.size w W
  n : w.heap.size + 3 ≤ W.heap.size
theorem Bm.on {w W W' : World} {X Y Z : List Value} (h : Bm w X Y Z W) (hb : Below W.heap.size W W') : Bm w X Y Z W' := ⟨h.bx.on hb, h.bs.on hb, h.bz.on hb, bthen h.B hb (Nat.le_refl _), Nat.le_trans h.n hb.size⟩
theorem Bm.new (w : World) (X Y Z : Array Value) (t t' t'' : TypeId) : Bm w X.toList Y.toList Z.toList (((w.alloc (.cells X t)).alloc (.cells Y t')).alloc (.cells Z t'')) :=
  ⟨rtNext (rtNext (rtAt0 w X t) _) _, rtNext (rtAt1 w _ Y t') _, rtAt2 w _ _ Z t'', rtThree w _ _ _, by simp⟩
end Go.Proofs.YtecjngodfciokaaGreatDoor
end
