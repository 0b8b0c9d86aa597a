/-
  MESSAGES IN MEMORY; WHETHER ONE MAY BE: walked.
-/
import Derived.Test.YtgponfdcagnhhaaGreatDoorDl10
import Derived.Test.YtgponfdcagnhhaaGreatDoorDl18
import Derived.Test.YtgponfdcagnhhaaGreatDoorDl21
import Derived.Test.YtgponfdcagnhhaaGreatDoorDl36

section
namespace Go.Proofs.YtgponfdcagnhhaaGreatDoor
open Go.ChangeShapes Go.WideShapes Go.ChangeAt Go.RowKit
def maL (x : Ml) (A : Option Addr) (c : Nat) : List Value := [.int .u64 (x.id : Int), .string (ofL x.shop), .string (ofL x.key), .slice A x.head.length c, .string (ofL x.body), .int .u64 (x.due : Int), .int .u8 (x.hops : Int)]
/-- its numbers are such that it can be walked -/
structure MaOk (w : World) (x : Ml) (A : Option Addr) (c : Nat) : Prop where
  shop : x.shop.length ≤ 90000
  key : x.key.length ≤ 90000
  body : x.body.length ≤ 90000
  len : x.head.length ≤ 100000
  cap : x.head.length ≤ c
  lite : Lite x.head
  row : Prs w A x.head
theorem MaOk.on {w w' : World} {x : Ml} {A : Option Addr} {c : Nat} (h : MaOk w x A c) (hb : Below w.heap.size w w') : MaOk w' x A c := ⟨h.shop, h.key, h.body, h.len, h.cap, h.lite, h.row.on hb⟩
/-- a message's box, of one's own, and its row -/
structure MaX (w : World) (x : Ml) (A : Option Addr) (c q : Nat) (W : World) : Prop where
  p : BoxC w q (maL x A c) W
  ra : Prs W A x.head
  B : Below w.heap.size w W
theorem MaX.on {w : World} {x : Ml} {A : Option Addr} {c q : Nat} {W W' : World} (h : MaX w x A c q W) (hb : Below W.heap.size W W') : MaX w x A c q W' := ⟨h.p.on hb, h.ra.on hb, bthen h.B hb (Nat.le_refl _)⟩
end Go.Proofs.YtgponfdcagnhhaaGreatDoor
end
