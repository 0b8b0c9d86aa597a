/-
  TO WHICH QUEUES AND PLACES, the document's: walked.
-/
import Derived.Test.YtgponfdcagnhhaaGreatDoorDl46
import Derived.Test.YtgponfdcagnhhaaGreatDoorDl47

section
namespace Go.Proofs.YtgponfdcagnhhaaGreatDoor
open Go.ChangeShapes Go.WideShapes Go.ChangeAt Go.RowKit
/-- the two rows of names, so far -/
structure Lq (s : Sh) (key : List UInt8) (h : List Hd.Pr) (l : List Bd) (w2 : World) (k : Nat) (A : Option Addr) (c : Nat) (B : Option Addr) (d : Nat) (ql pl : List (List UInt8)) (wr : World) : Prop where
  eq : ql = Bk.lead s false key h (l.take k)
  ep : pl = Bk.lead s true key h (l.take k)
  oq : wr.ownsRow w2.heap.size 9 1 (.slice A ql.length c) ql.length (sts ql)
  op : wr.ownsRow w2.heap.size 9 1 (.slice B pl.length d) pl.length (sts pl)
  ne : (Value.slice A ql.length c).ownBlock = none ∨ (Value.slice A ql.length c).ownBlock ≠ (Value.slice B pl.length d).ownBlock
  B : Below w2.heap.size w2 wr
theorem Lq.on {s : Sh} {key : List UInt8} {h : List Hd.Pr} {l : List Bd} {w2 : World} {k : Nat} {A : Option Addr} {c : Nat} {B : Option Addr} {d : Nat} {ql pl : List (List UInt8)} {wr W : World} (H : Lq s key h l w2 k A c B d ql pl wr) (hb : Below wr.heap.size wr W) : Lq s key h l w2 k A c B d ql pl W :=
  ⟨H.eq, H.ep, Rw.own_on H.oq hb, Rw.own_on H.op hb, H.ne, bthen H.B hb (Nat.le_refl _)⟩
end Go.Proofs.YtgponfdcagnhhaaGreatDoor
end
