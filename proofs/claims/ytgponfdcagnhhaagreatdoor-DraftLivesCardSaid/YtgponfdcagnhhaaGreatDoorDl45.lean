/-
  A DEED's BYTES, the program's: walked.
-/
import Derived.Test.YtgponfdcagnhhaaGreatDoorDl01
import Derived.Test.YtgponfdcagnhhaaGreatDoorDl03
import Derived.Test.YtgponfdcagnhhaaGreatDoorDl04
import Derived.Test.YtgponfdcagnhhaaGreatDoorDl13
import Derived.Test.YtgponfdcagnhhaaGreatDoorDl14
import Derived.Test.YtgponfdcagnhhaaGreatDoorDl18
import Derived.Test.YtgponfdcagnhhaaGreatDoorDl23
import Derived.Test.YtgponfdcagnhhaaGreatDoorDl24
import Derived.Test.YtgponfdcagnhhaaGreatDoorDl31
import Derived.Test.YtgponfdcagnhhaaGreatDoorDl33
import Derived.Test.YtgponfdcagnhhaaGreatDoorDl38
import Derived.Test.YtgponfdcagnhhaaGreatDoorDl39
import Derived.Test.YtgponfdcagnhhaaGreatDoorDl41
import Derived.Test.YtgponfdcagnhhaaGreatDoorDl43
import Derived.Test.YtgponfdcagnhhaaGreatDoorDl44
import Derived.Deep.RegionHeld3
import Derived.Deep.DeepCutAuto
import Derived.Great.BuildSlice
import Derived.Laws.StructEq
import Derived.BigQuiet
import Derived.Deep.Upon
import Derived.Laws.AppendOwnNone
import Derived.Deep.QuietTactic
import Derived.Test.YtgponfdcagnhhaaGreatDoorRows
section
namespace Go.Proofs.YtgponfdcagnhhaaGreatDoor
open Go.ChangeShapes Go.WideShapes Go.ChangeAt Go.RowKit
namespace De
def tx (s : List UInt8) : List UInt8 := Oct.be 2 s.length ++ s
def E1 (x : De) : List UInt8 := Oct.be 1 x.kd ++ Oct.be 8 x.tick
/-- the bytes of one that may be -/
def enc (x : De) : List UInt8 :=
  if x.kd = 0 then E1 x ++ tx x.shop.name ++ Oct.be 1 x.shop.sort ++ tx x.shop.to else
  if x.kd = 2 then E1 x ++ tx x.q.name ++ Oct.be 8 x.q.most ++ Oct.be 8 x.q.life ++ tx x.q.dead else
  if x.kd = 4 ∨ x.kd = 5 then bdE x.bind (E1 x) else
  if x.kd = 1 ∨ x.kd = 3 ∨ x.kd = 7 then E1 x ++ tx x.name else
  if x.kd = 6 then E1 x ++ x.mail.enc else
  if x.kd = 8 then E1 x ++ tx x.name ++ Oct.be 8 x.id ++ Oct.be 1 x.how else
  if x.kd = 10 then E1 x ++ Oct.be 1 x.frm ++ Oct.be 8 x.num ++ x.mail.enc else
  if x.kd = 12 then E1 x ++ Oct.be 1 x.cd ++ tx x.text else
  E1 x
end De
/-- its box, and the box of what is written so far -/
structure DbS (w : World) (x : De) (A : Option Addr) (c : Nat) (B : Option Addr) (d g : Nat) (s : ByteArray) (W : World) : Prop where
  o : BoxC w g [.string s, .int .i64 0] W
  p : DeX w x A c B d w.heap.size W
  gg : w.heap.size < g
  B : Below w.heap.size w W
theorem DbS.on {w : World} {x : De} {A : Option Addr} {c : Nat} {B : Option Addr} {d g : Nat} {s : ByteArray} {W W' : World} (h : DbS w x A c B d g s W) (hb : Below W.heap.size W W') : DbS w x A c B d g s W' := ⟨h.o.on hb, h.p.on hb, h.gg, bthen h.B hb (Nat.le_refl _)⟩
def DbE (w : World) (x : De) (A : Option Addr) (c : Nat) (B : Option Addr) (d g : Nat) (W : World) : Prop := ∃ s, DbS w x A c B d g s W
theorem DbE.on {w : World} {x : De} {A : Option Addr} {c : Nat} {B : Option Addr} {d g : Nat} {W W' : World} (h : DbE w x A c B d g W) (hb : Below W.heap.size W W') : DbE w x A c B d g W' := by
  obtain ⟨s, h⟩ := h
  exact ⟨s, h.on hb⟩
theorem DbS.put {w : World} {x : De} {A : Option Addr} {c : Nat} {B : Option Addr} {d g : Nat} {s : ByteArray} {W : World} (h : DbS w x A c B d g s W) (hA : Prs w A x.bind.want) (hB : Prs w B x.mail.head) (y : ByteArray) : DbS w x A c B d g y ((W.setCell ⟨g, 0, none⟩ (.string y)).setCell ⟨g, 1, none⟩ (.int .i64 0)) := by
  have hb : Below w.heap.size w ((W.setCell ⟨g, 0, none⟩ (.string y)).setCell ⟨g, 1, none⟩ (.int .i64 0)) := (h.B.setCell (p := ⟨g, 0, none⟩) (Nat.le_of_lt h.gg) _).setCell (p := ⟨g, 1, none⟩) (Nat.le_of_lt h.gg) _
  exact ⟨(h.o.put 0 (.string y) (by simp)).put 1 (.int .i64 0) (by simp), ⟨(h.p.p.aside (Nat.ne_of_gt h.gg) 0 _).aside (Nat.ne_of_gt h.gg) 1 _, hA.on hb, hB.on hb⟩, h.gg, hb⟩
end Go.Proofs.YtgponfdcagnhhaaGreatDoor
end
