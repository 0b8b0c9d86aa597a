/-
  WHERE AN EXCHANGE LEADS: rows of names; the program's, walked.
-/
import Derived.Test.YtgponfdcagnhhaaGreatDoorDl01
import Derived.Test.YtgponfdcagnhhaaGreatDoorDl03
import Derived.Test.YtgponfdcagnhhaaGreatDoorDl13
import Derived.Test.YtgponfdcagnhhaaGreatDoorDl23
import Derived.Test.YtgponfdcagnhhaaGreatDoorDl24
import Derived.Test.YtgponfdcagnhhaaGreatDoorDl31
import Derived.Test.YtgponfdcagnhhaaGreatDoorDl33
import Derived.Test.YtgponfdcagnhhaaGreatDoorDl38
import Derived.Laws.StructEq
import Derived.BigQuiet
import Derived.Deep.RegionHeld3
import Derived.Deep.DeepCutAuto
import Derived.Deep.Upon
import Derived.Laws.AppendOwnNone
section
namespace Go.Proofs.YtgponfdcagnhhaaGreatDoor
open Go.ChangeShapes Go.WideShapes Go.ChangeAt Go.RowKit
def stL (s : List UInt8) : List Value := [.string (ofL s)]
def sts (l : List (List UInt8)) : List Value := l.flatMap stL
namespace Bk
def goes (s : Sh) (up : Bool) (key : List UInt8) (h : List Hd.Pr) (x : Bd) : Bool := (x.shop == s.name) && ((x.up == up) && goesB (bdRu s.sort x) key h)
/-- to which queues, or places -/
def lead (s : Sh) (up : Bool) (key : List UInt8) (h : List Hd.Pr) (l : List Bd) : List (List UInt8) := l.foldl (fun acc x => if goes s up key h x then Bk.put acc x.to else acc) []
end Bk
end Go.Proofs.YtgponfdcagnhhaaGreatDoor
end
