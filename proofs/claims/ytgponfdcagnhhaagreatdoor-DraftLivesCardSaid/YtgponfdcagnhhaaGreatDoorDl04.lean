/-
  PLAIN: names, words with points between, patterns. No program is spoken of here.
-/

import Derived.Lib.Join
section
namespace Go.Proofs.YtgponfdcagnhhaaGreatDoor.Wrd
def mark (b : UInt8) : Bool := (decide (97 ≤ b.toNat) && decide (b.toNat ≤ 122)) || (decide (48 ≤ b.toNat) && decide (b.toNat ≤ 57)) || decide (b.toNat = 45) || decide (b.toNat = 95)
def plain (l : List UInt8) : Bool := l.all mark && decide (l.length ≠ 0)
def nameCode (l : List UInt8) : Nat := if l.length = 0 then 15 else if 16 < l.length then 5 else if l.all mark then 0 else 4
/-- the words between the points -/
def cut : List UInt8 → List (List UInt8)
  | [] => [[]]
  | b :: l => if b = 46 then [] :: cut l else match cut l with
    | [] => [[b]]
    | h :: t => (b :: h) :: t
def words (l : List UInt8) : List (List UInt8) := if l.length = 0 then [] else cut l
def okWord (bs : List (List UInt8)) (x : List UInt8) : Bool := bs.contains x || plain x
def keyCode (bs : List (List UInt8)) (l : List UInt8) : Nat := if 64 < l.length then 5 else if (words l).all (okWord bs) then 0 else 4
/-! ### patterns -/
abbrev W := List UInt8
def star : W := [42]
def hash : W := [35]
/-- does a key match a pattern: both from behind -/
def mt : List W → List W → Bool
  | [], k => k.isEmpty
  | w :: p, [] => (w == hash) && mt p []
  | w :: p, x :: k => if w == hash then mt p (x :: k) || mt (w :: p) k else mt p k && (w == star || w == x)
termination_by p k => (p.length, k.length)
def matches' (p k : List W) : Bool := mt p.reverse k.reverse
/-- one row behind another -/
def nx (one : W) (ws : List W) (f : Nat → Bool) : Nat → Bool
  | 0 => (one == hash) && f 0
  | j + 1 => if one == hash then f (j + 1) || nx one ws f j else f j && (one == star || one == ws.getD j [])
def row (ws : List W) : List W → Nat → Bool
  | [] => fun j => j == 0
  | w :: p => nx w ws (row ws p)
end Go.Proofs.YtgponfdcagnhhaaGreatDoor.Wrd
end
