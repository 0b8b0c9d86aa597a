/-
  PLAIN: methods: what a kind tells, what may be, their bytes, what is read. No program is spoken of here.
-/
import Derived.Test.YtgponfdcagnhhaaGreatDoorDl09
import Derived.Test.YtgponfdcagnhhaaGreatDoorDl21

section
namespace Go.Proofs.YtgponfdcagnhhaaGreatDoor
structure Me where
  ch : UInt8
  kd : UInt8
  name : List UInt8
  other : List UInt8
  key : List UInt8
  head : List Hd.Pr
  body : List UInt8
  n : Nat
  m : Nat
  yes : Bool
deriving DecidableEq
namespace Me
def zero (c k : UInt8) : Me := ⟨c, k, [], [], [], [], [], 0, 0, false⟩
/-- what a kind tells, in the order of its bytes: 0 Name, 1 Other, 2 Key, 3 Head, 4 Body, 5 N, 6 M, 7 Yes -/
def tells (k : Nat) : List Nat :=
  match k with
  | 0 => [5]
  | 3 => [0, 5, 1]
  | 4 => [0]
  | 5 => [0, 5, 6, 1]
  | 6 => [0]
  | 7 => [0, 1, 2, 3, 7]
  | 8 => [0, 1, 2, 3, 7]
  | 9 => [0, 1, 2, 3, 7]
  | 10 => [0, 1, 2, 3, 7]
  | 11 => [0, 2, 3, 6, 4]
  | 12 => [5]
  | 13 => [0, 5]
  | 14 => [5]
  | 15 => [0]
  | 16 => [5, 6, 7]
  | _ => []
/-- what a kind tells, as the document says it -/
structure Has where
  name : Bool
  other : Bool
  lack : Bool
  key : Bool
  pat : Bool
  head : Bool
  body : Bool
  n : Bool
  m : Bool
  yes : Bool
def has (k : Nat) : Has :=
  match k with
  | 0 => ⟨false, false, false, false, false, false, false, true, false, false⟩
  | 3 => ⟨true, true, true, false, false, false, false, true, false, false⟩
  | 4 => ⟨true, false, false, false, false, false, false, false, false, false⟩
  | 5 => ⟨true, true, true, false, false, false, false, true, true, false⟩
  | 6 => ⟨true, false, false, false, false, false, false, false, false, false⟩
  | 7 => ⟨true, true, false, true, true, true, false, false, false, true⟩
  | 8 => ⟨true, true, false, true, true, true, false, false, false, true⟩
  | 9 => ⟨true, true, false, true, true, true, false, false, false, true⟩
  | 10 => ⟨true, true, false, true, true, true, false, false, false, true⟩
  | 11 => ⟨true, false, false, true, false, true, true, false, true, false⟩
  | 12 => ⟨false, false, false, false, false, false, false, true, false, false⟩
  | 13 => ⟨true, false, false, false, false, false, false, true, false, false⟩
  | 14 => ⟨false, false, false, false, false, false, false, true, false, false⟩
  | 15 => ⟨true, false, false, false, false, false, false, false, false, false⟩
  | 16 => ⟨false, false, false, false, false, false, false, true, true, true⟩
  | _ => ⟨false, false, false, false, false, false, false, false, false, false⟩
/-- is a part zero? -/
def lacks (x : Me) (p : Nat) : Bool :=
  if p = 0 then x.name == [] else if p = 1 then x.other == [] else if p = 2 then x.key == [] else if p = 3 then x.head.length == 0 else if p = 4 then x.body == [] else if p = 5 then x.n == 0 else if p = 6 then x.m == 0 else !x.yes
def ocode (x : Me) : Nat := if x.other = [] ∧ (x.kd.toNat = 3 ∨ x.kd.toNat = 5) then 0 else Wrd.nameCode x.other
def kcode (x : Me) : Nat := if x.kd.toNat = 11 then Wrd.keyCode [] x.key else Wrd.keyCode wild x.key
/-- what is wrong with a part -/
def pcode (x : Me) (p : Nat) : Nat :=
  if p = 0 then Wrd.nameCode x.name else if p = 1 then ocode x else if p = 2 then kcode x else if p = 3 then Hd.hcode x.head else if p = 4 then (if 256 < x.body.length then 5 else 0) else 0
/-- is something there that its kind doesn't tell? -/
def more (x : Me) : Bool := (List.range 8).any fun p => !(tells x.kd.toNat).contains p && !lacks x p
/-- the first code that isn't 0 -/
def firstc (f : Nat → Nat) : List Nat → Nat
  | [] => 0
  | p :: l => if f p ≠ 0 then f p else firstc f l
/-- what is wrong with a method -/
def code (x : Me) : Nat := if 20 < x.kd.toNat then 8 else if more x then 4 else firstc (pcode x) (tells x.kd.toNat)
/-- numbers that their types hold -/
structure Fits (x : Me) : Prop where
  n : x.n < 18446744073709551616
  m : x.m < 18446744073709551616
  head : ∀ p ∈ x.head, Hd.Fits p

/-! ### its bytes -/
def enc1 (x : Me) (p : Nat) : List UInt8 :=
  if p = 0 then Oct.text x.name else if p = 1 then Oct.text x.other else if p = 2 then Oct.text x.key else if p = 3 then Hd.henc x.head else if p = 4 then Oct.text x.body else if p = 5 then Oct.be 8 x.n else if p = 6 then Oct.be 8 x.m else if p = 7 then Pt.yesEnc x.yes else []
def enc (x : Me) : List UInt8 := (tells x.kd.toNat).flatMap (enc1 x)
/-! ### what was read is written so -/
end Me
end Go.Proofs.YtgponfdcagnhhaaGreatDoor
end
