/-
  WHICH MESSAGES GO BY A RULE: walked, the program's and the document's; rules held against each other.
-/
import Derived.Test.YtgponfdcagnhhaaGreatDoorDl19
import Derived.Test.YtgponfdcagnhhaaGreatDoorDl22
import Derived.Test.YtgponfdcagnhhaaGreatDoorDl23

section
namespace Go.Proofs.YtgponfdcagnhhaaGreatDoor
open Go.ChangeShapes Go.WideShapes Go.ChangeAt Go.RowKit
/-- does a message go? -/
def goesB (r : Ru) (key : List UInt8) (h : List Hd.Pr) : Bool :=
  if r.sort = 0 then r.key == key else if r.sort = 1 then true else if r.sort = 2 then Wrd.matches' (Wrd.words r.key) (Wrd.words key) else
  if r.all then r.want.all (hasP h) else r.want.any (hasP h)
end Go.Proofs.YtgponfdcagnhhaaGreatDoor
end
