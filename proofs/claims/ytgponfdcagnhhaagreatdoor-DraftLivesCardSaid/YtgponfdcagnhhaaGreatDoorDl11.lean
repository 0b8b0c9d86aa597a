/-
  PLAIN: deeds: what they tell, what may be, their bytes. No program is spoken of here.
-/
import Derived.Test.YtgponfdcagnhhaaGreatDoorDl08
import Derived.Test.YtgponfdcagnhhaaGreatDoorDl10

section
namespace Go.Proofs.YtgponfdcagnhhaaGreatDoor
structure Qu where
  name : List UInt8
  most : Nat
  life : Nat
  dead : List UInt8
deriving DecidableEq
structure De where
  kd : Nat
  tick : Nat
  shop : Sh
  q : Qu
  bind : Bd
  name : List UInt8
  id : Nat
  how : Nat
  frm : Nat
  cd : Nat
  num : Nat
  mail : Ml
  text : List UInt8
deriving DecidableEq
namespace De
def Qu0 : Qu := ⟨[], 0, 0, []⟩
def zero : De := ⟨0, 0, Bk.Sh0, Qu0, Bk.Bd0, [], 0, 0, 0, 0, 0, Ml.zero, []⟩
def of (k t : Nat) : De := ⟨k, t, Bk.Sh0, Qu0, Bk.Bd0, [], 0, 0, 0, 0, 0, Ml.zero, []⟩
def names (k : Nat) : Bool := k == 1 || k == 3 || k == 7 || k == 8
/-- what its kind tells -/
def told (x : De) : De :=
  if x.kd = 0 then { of x.kd x.tick with shop := x.shop } else
  if x.kd = 2 then { of x.kd x.tick with q := x.q } else
  if x.kd = 4 ∨ x.kd = 5 then { of x.kd x.tick with bind := x.bind } else
  if x.kd = 1 ∨ x.kd = 3 ∨ x.kd = 7 then { of x.kd x.tick with name := x.name } else
  if x.kd = 6 then { of x.kd x.tick with mail := x.mail } else
  if x.kd = 8 then { of x.kd x.tick with name := x.name, id := x.id, how := x.how } else
  if x.kd = 10 then { of x.kd x.tick with frm := x.frm, num := x.num, mail := x.mail } else
  if x.kd = 12 then { of x.kd x.tick with cd := x.cd, text := x.text } else of x.kd x.tick
/-- a name, or nothing -/
def maybe (s : List UInt8) : Nat := if s = [] then 0 else Wrd.nameCode s
/-- what is wrong with what is told of an exchange, a queue, a binding -/
def shc (x : Sh) : Nat := if Wrd.nameCode x.name ≠ 0 then Wrd.nameCode x.name else if 4 < x.sort then 8 else maybe x.to
def quc (x : Qu) : Nat := if Wrd.nameCode x.name ≠ 0 then Wrd.nameCode x.name else maybe x.dead
def bdc (x : Bd) : Nat := if Wrd.nameCode x.shop ≠ 0 then Wrd.nameCode x.shop else if Wrd.nameCode x.to ≠ 0 then Wrd.nameCode x.to else if 64 < x.key.length then 5 else Hd.hcode x.want
def stc (x : De) : Nat := if Wrd.nameCode x.name ≠ 0 then Wrd.nameCode x.name else if 2 < x.how then 7 else 0
def body (x : De) : Nat :=
  if x.kd = 0 then shc x.shop else
  if x.kd = 2 then quc x.q else
  if x.kd = 4 ∨ x.kd = 5 then bdc x.bind else
  if x.kd = 1 ∨ x.kd = 3 ∨ x.kd = 7 then Wrd.nameCode x.name else
  if x.kd = 6 ∨ x.kd = 10 then x.mail.code else
  if x.kd = 8 then stc x else
  if x.kd = 12 then (if 64 < x.text.length then 5 else 0) else 0
/-- what is wrong with it first -/
def code (x : De) : Nat := if 12 < x.kd then 8 else if x ≠ x.told then 4 else body x
/-- numbers that their types hold -/
structure Fits (x : De) : Prop where
  kd : x.kd < 256
  tick : x.tick < 18446744073709551616
  sort : x.shop.sort < 256
  most : x.q.most < 18446744073709551616
  life : x.q.life < 18446744073709551616
  want : ∀ p ∈ x.bind.want, Hd.Fits p
  id : x.id < 18446744073709551616
  how : x.how < 256
  frm : x.frm < 256
  cd : x.cd < 256
  num : x.num < 18446744073709551616
  mail : Ml.Fits x.mail
end De
end Go.Proofs.YtgponfdcagnhhaaGreatDoor
end
