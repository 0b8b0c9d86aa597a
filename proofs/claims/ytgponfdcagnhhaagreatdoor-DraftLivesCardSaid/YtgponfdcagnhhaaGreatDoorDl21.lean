/-
  KEYS AND PATTERNS, walked: the program's. WHETHER A HEAD HAS A PAIR, EACH of some, ONE of some: walked, the program's and the document's.
-/
import Derived.Test.YtgponfdcagnhhaaGreatDoorDl18
import Derived.Test.YtgponfdcagnhhaaGreatDoorDl19
import Derived.Test.YtgponfdcagnhhaaGreatDoorDl20
import Derived.Deep.QuietTactic
section
namespace Go.Proofs.YtgponfdcagnhhaaGreatDoor
open Go.ChangeShapes Go.WideShapes Go.ChangeAt Go.RowKit
def wild : List (List UInt8) := [Wrd.star, Wrd.hash]
end Go.Proofs.YtgponfdcagnhhaaGreatDoor
end
section
namespace Go.Proofs.YtgponfdcagnhhaaGreatDoor
open Go.ChangeShapes Go.WideShapes Go.ChangeAt Go.RowKit
/-- is a pair in a head? -/
def hasP (h : List Hd.Pr) (x : Hd.Pr) : Bool := h.any fun y => prEq x y
attribute [local go_sem] guardPr
end Go.Proofs.YtgponfdcagnhhaaGreatDoor
end
