/-
  WHAT IS WRITTEN OF A DEED, piece by piece: the program's, walked.
-/
import Derived.Test.YtgponfdcagnhhaaGreatDoorDl40
import Derived.Test.YtgponfdcagnhhaaGreatDoorDl41
import Derived.Deep.RegionHeld3
import Derived.Deep.DeepCutAuto
section
namespace Go.Proofs.YtgponfdcagnhhaaGreatDoor
open Go.ChangeShapes Go.WideShapes Go.ChangeAt Go.RowKit
def bitN (b : Bool) : Nat := if b then 1 else 0
end Go.Proofs.YtgponfdcagnhhaaGreatDoor
end
