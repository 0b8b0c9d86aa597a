/-
  THE PAIR OF A KEY; what is wrong with a pair, and with a head: walked, the program's and the document's.
-/
import Derived.Test.YtgponfdcagnhhaaGreatDoorDl15
import Derived.Test.YtgponfdcagnhhaaGreatDoorDl16
import Derived.StillTailTactics
import Derived.Deep.QuietTactic
section
namespace Go.Proofs.YtgponfdcagnhhaaGreatDoor
open Go.ChangeShapes Go.WideShapes Go.ChangeAt Go.RowKit
theorem prOf {W : World} {g : Nat} {x : Hd.Pr} (h : Cels W g (prL x)) : PrAt W g 0 x := ⟨h 0 _ rfl, h 1 _ rfl, h 2 _ rfl, h 3 _ rfl⟩
theorem PrAt.new (x : Hd.Pr) (W : World) : PrAt (W.alloc (.cells #[.string (ofL x.key), .int .u8 (x.kind : Int), .int .i64 x.num, .string (ofL x.txt)] 84)) W.heap.size 0 x := prOf (Cels.new W _ _)
/-- the first pair of a key, or the zero one -/
def first (l : List Hd.Pr) (k : List UInt8) : Hd.Pr := if Hd.there l k then Hd.pr l (idx (fun x => x.key == k) l).toNat else Hd.Pr.zero
/-! ### what is wrong with a pair -/
end Go.Proofs.YtgponfdcagnhhaaGreatDoor
end
