/-
  PLAIN: what a frame's body is made of: numbers, yes or no, texts, heads; read behind they were written, and written behind they were read. No program is spoken of here.
-/
import Derived.Test.YtgponfdcagnhhaaGreatDoorDl07

section
namespace Go.Proofs.YtgponfdcagnhhaaGreatDoor.Pt
def yesEnc (b : Bool) : List UInt8 := if b then [1] else [0]
/-! ### written, then read -/
/-! ### read, then written -/
end Go.Proofs.YtgponfdcagnhhaaGreatDoor.Pt
end
