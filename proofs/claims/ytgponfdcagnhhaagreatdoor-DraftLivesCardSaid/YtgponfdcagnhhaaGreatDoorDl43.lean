/-
  A BINDING WRITTEN, the program's: walked.
-/
import Derived.Test.YtgponfdcagnhhaaGreatDoorDl42

section
namespace Go.Proofs.YtgponfdcagnhhaaGreatDoor
open Go.ChangeShapes Go.WideShapes Go.ChangeAt Go.RowKit
/-- its boxes: what is written so far, the binding, what is told -/
structure WbS (w : World) (x : Bd) (A : Option Addr) (c : Nat) (s t : ByteArray) (W : World) : Prop where
  o : BoxC w w.heap.size [.string s, .int .i64 0] W
  p : BoxC w (w.heap.size + 1) [.string (ofL x.shop), .string (ofL x.to), .bool x.up, .string (ofL x.key), .slice A x.want.length c, .bool x.all] W
  r : BoxC w (w.heap.size + 2) [.string t, .int .i64 0] W
  B : Below w.heap.size w W
theorem WbS.on {w : World} {x : Bd} {A : Option Addr} {c : Nat} {s t : ByteArray} {W W' : World} (h : WbS w x A c s t W) (hb : Below W.heap.size W W') : WbS w x A c s t W' := ⟨h.o.on hb, h.p.on hb, h.r.on hb, bthen h.B hb (Nat.le_refl _)⟩
def WbE (w : World) (x : Bd) (A : Option Addr) (c : Nat) (W : World) : Prop := ∃ s t, WbS w x A c s t W
theorem WbE.on {w : World} {x : Bd} {A : Option Addr} {c : Nat} {W W' : World} (h : WbE w x A c W) (hb : Below W.heap.size W W') : WbE w x A c W' := by
  obtain ⟨s, t, h⟩ := h
  exact ⟨s, t, h.on hb⟩
def bdE (x : Bd) (y : List UInt8) : List UInt8 := y ++ (Oct.be 2 x.shop.length ++ x.shop) ++ (Oct.be 2 x.to.length ++ x.to) ++ Oct.be 1 (bitN x.up) ++ (Oct.be 2 x.key.length ++ x.key) ++ Hd.henc x.want ++ Oct.be 1 (bitN x.all)
end Go.Proofs.YtgponfdcagnhhaaGreatDoor
end
