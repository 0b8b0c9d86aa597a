/-
  PLAIN: replies: what a kind tells, what may be, their bytes, what is read. No program is spoken of here.
-/
import Derived.Test.YtgponfdcagnhhaaGreatDoorDl09

section
namespace Go.Proofs.YtgponfdcagnhhaaGreatDoor
structure Re where
  ch : UInt8
  kd : UInt8
  n : Nat
  m : Nat
  yes : Bool
  name : List UInt8
  id : Nat
  shop : List UInt8
  key : List UInt8
  head : List Hd.Pr
  body : List UInt8
  due : Nat
  hops : Nat
deriving DecidableEq
namespace Re
def zero (c k : UInt8) : Re := ⟨c, k, 0, 0, false, [], 0, [], [], [], [], 0, 0⟩
/-- what a kind tells, in the order of its bytes: 0 N, 1 M, 2 Yes, 3 Name, 4 Shop, 5 Key, 6 Head, 7 Body -/
def tells (k : Nat) : List Nat :=
  match k with
  | 0 => [3]
  | 2 => [0]
  | 3 => [0, 1, 2, 4, 5, 6, 7]
  | 5 => [0]
  | 6 => [0, 1]
  | 7 => [0]
  | _ => []
/-- is a part zero? -/
def lacks (x : Re) (p : Nat) : Bool :=
  if p = 0 then x.n == 0 else if p = 1 then x.m == 0 else if p = 2 then !x.yes else if p = 3 then x.name == [] else if p = 4 then x.shop == [] else if p = 5 then x.key == [] else if p = 6 then x.head.length == 0 else if p = 7 then x.body == [] else (x.id == 0 && x.due == 0 && x.hops == 0)
/-- what is wrong with a part -/
def pcode (x : Re) (p : Nat) : Nat :=
  if p = 3 then Wrd.nameCode x.name else if p = 4 then Wrd.nameCode x.shop else if p = 5 then Wrd.keyCode [] x.key else if p = 6 then Hd.hcode x.head else if p = 7 then (if 256 < x.body.length then 5 else 0) else 0
/-- is something there that its kind doesn't tell? -/
def more (x : Re) : Bool := (List.range 9).any fun p => !(tells x.kd.toNat).contains p && !lacks x p
/-- the first code that isn't 0 -/
def firstc (f : Nat → Nat) : List Nat → Nat
  | [] => 0
  | p :: l => if f p ≠ 0 then f p else firstc f l
/-- what is wrong with a reply -/
def code (x : Re) : Nat := if 7 < x.kd.toNat then 8 else if more x then 4 else firstc (pcode x) (tells x.kd.toNat)
/-- numbers that their types hold -/
structure Fits (x : Re) : Prop where
  n : x.n < 18446744073709551616
  m : x.m < 18446744073709551616
  head : ∀ p ∈ x.head, Hd.Fits p

/-! ### its bytes -/
def enc1 (x : Re) (p : Nat) : List UInt8 :=
  if p = 0 then Oct.be 8 x.n else if p = 1 then Oct.be 8 x.m else if p = 2 then Pt.yesEnc x.yes else if p = 3 then Oct.text x.name else if p = 4 then Oct.text x.shop else if p = 5 then Oct.text x.key else if p = 6 then Hd.henc x.head else if p = 7 then Oct.text x.body else []
def enc (x : Re) : List UInt8 := (tells x.kd.toNat).flatMap (enc1 x)
/-- a frame's kind, a reply's -/
def up (k : UInt8) : UInt8 := 64 + k
/-! ### what was read is written so -/
end Re
end Go.Proofs.YtgponfdcagnhhaaGreatDoor
end
