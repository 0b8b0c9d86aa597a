/-
  OCTET's OTHER CALLS, walked: a text that is read, what is left, the error; a text that is too long.
-/
import Derived.Test.YtgponfdcagnhhaaGreatDoorDl03

section
namespace Go.Proofs.YtgponfdcagnhhaaGreatDoor
open Go.ChangeShapes Go.WideShapes Go.ChangeAt Go.RowKit
/-- what an object that reads has: what is left, and the error -/
abbrev St := ByteArray × Int
def St.ok (s : St) : Prop := s.2 ≠ 0 → s.1 = ByteArray.empty
/-! ### the examples -/
end Go.Proofs.YtgponfdcagnhhaaGreatDoor
end
