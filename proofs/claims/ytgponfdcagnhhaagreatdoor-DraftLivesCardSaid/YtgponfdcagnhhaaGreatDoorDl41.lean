/-
  DEEDS IN MEMORY.
-/
import Derived.Test.YtgponfdcagnhhaaGreatDoorDl11
import Derived.Test.YtgponfdcagnhhaaGreatDoorDl13
import Derived.Test.YtgponfdcagnhhaaGreatDoorDl15
import Derived.Test.YtgponfdcagnhhaaGreatDoorDl23
import Derived.Test.YtgponfdcagnhhaaGreatDoorDl24
import Derived.Test.YtgponfdcagnhhaaGreatDoorDl25
import Derived.Test.YtgponfdcagnhhaaGreatDoorDl31
import Derived.Test.YtgponfdcagnhhaaGreatDoorDl33
import Derived.Test.YtgponfdcagnhhaaGreatDoorDl36
import Derived.Test.YtgponfdcagnhhaaGreatDoorDl37
import Derived.Test.YtgponfdcagnhhaaGreatDoorDl38
import Derived.Test.YtgponfdcagnhhaaGreatDoorDl39
import Derived.Test.YtgponfdcagnhhaaGreatDoorDl40
import Derived.Deep.RegionHeld3
import Derived.Deep.DeepCutAuto
import Derived.Deep.QuietTactic
section
namespace Go.Proofs.YtgponfdcagnhhaaGreatDoor
open Go.ChangeShapes Go.WideShapes Go.ChangeAt Go.RowKit
def deL (x : De) (A : Option Addr) (c : Nat) (B : Option Addr) (d : Nat) : List Value := [.int .u8 (x.kd : Int), .int .u64 (x.tick : Int), .string (ofL x.shop.name), .int .u8 (x.shop.sort : Int), .string (ofL x.shop.to), .string (ofL x.q.name), .int .u64 (x.q.most : Int), .int .u64 (x.q.life : Int), .string (ofL x.q.dead), .string (ofL x.bind.shop), .string (ofL x.bind.to), .bool x.bind.up, .string (ofL x.bind.key), .slice A x.bind.want.length c, .bool x.bind.all, .string (ofL x.name), .int .u64 (x.id : Int), .int .u8 (x.how : Int), .int .u8 (x.frm : Int), .int .u8 (x.cd : Int), .int .u64 (x.num : Int), .int .u64 (x.mail.id : Int), .string (ofL x.mail.shop), .string (ofL x.mail.key), .slice B x.mail.head.length d, .string (ofL x.mail.body), .int .u64 (x.mail.due : Int), .int .u8 (x.mail.hops : Int), .string (ofL x.text)]
/-- its numbers are such that it can be walked -/
structure DeOk (w : World) (x : De) (A : Option Addr) (c : Nat) (B : Option Addr) (d : Nat) : Prop where
  sn : x.shop.name.length ≤ 90000
  st : x.shop.to.length ≤ 90000
  qn : x.q.name.length ≤ 90000
  qd : x.q.dead.length ≤ 90000
  bind : BdOk w x.bind A c
  name : x.name.length ≤ 90000
  mail : MaOk w x.mail B d
  text : x.text.length ≤ 90000
theorem DeOk.on {w w' : World} {x : De} {A : Option Addr} {c : Nat} {B : Option Addr} {d : Nat} (h : DeOk w x A c B d) (hb : Below w.heap.size w w') : DeOk w' x A c B d := ⟨h.sn, h.st, h.qn, h.qd, h.bind.on hb, h.name, h.mail.on hb, h.text⟩
/-- a deed's box, of one's own, and its rows -/
structure DeX (w : World) (x : De) (A : Option Addr) (c : Nat) (B : Option Addr) (d q : Nat) (W : World) : Prop where
  p : BoxC w q (deL x A c B d) W
  ra : Prs W A x.bind.want
  rb : Prs W B x.mail.head
theorem DeX.on {w : World} {x : De} {A : Option Addr} {c : Nat} {B : Option Addr} {d q : Nat} {W W' : World} (h : DeX w x A c B d q W) (hb : Below W.heap.size W W') : DeX w x A c B d q W' := ⟨h.p.on hb, h.ra.on hb, h.rb.on hb⟩
end Go.Proofs.YtgponfdcagnhhaaGreatDoor
end
