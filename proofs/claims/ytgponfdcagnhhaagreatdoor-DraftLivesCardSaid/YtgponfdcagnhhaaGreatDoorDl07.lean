/-
  PLAIN: heads: pairs, what may be, their bytes, what is read. No program is spoken of here.
-/
import Derived.Test.YtgponfdcagnhhaaGreatDoorDl02
import Derived.Test.YtgponfdcagnhhaaGreatDoorDl04
import Derived.Test.YtgponfdcagnhhaaGreatDoorDl06

section
namespace Go.Proofs.YtgponfdcagnhhaaGreatDoor.Hd
structure Pr where
  key : List UInt8
  kind : Nat
  num : Int
  txt : List UInt8
deriving DecidableEq
def Pr.zero : Pr := ⟨[], 0, 0, []⟩
def pr (l : List Pr) (i : Nat) : Pr := l.getD i Pr.zero
theorem pr_at {l : List Pr} {i : Nat} (h : i < l.length) : pr l i = l[i] := by unfold pr; rw [List.getD_eq_getElem?_getD, List.getElem?_eq_getElem h]; rfl
/-- numbers that their types hold -/
structure Fits (p : Pr) : Prop where
  kind : p.kind < 256
  lo : -9223372036854775808 ≤ p.num
  hi : p.num < 9223372036854775808
theorem Fits.zero : Fits Pr.zero := ⟨by decide, by decide, by decide⟩

/-- the first of n codes that isn't 0 -/
def scan (f : Nat → Nat) : Nat → Nat
  | 0 => 0
  | n + 1 => if scan f n ≠ 0 then scan f n else f n
/-- is a pair of that key there? -/
def there (l : List Pr) (k : List UInt8) : Bool := l.any fun q => q.key == k
/-- what is wrong with a pair by itself -/
def bad (p : Pr) : Nat :=
  if Wrd.nameCode p.key ≠ 0 then Wrd.nameCode p.key else
  if 2 < p.kind then 8 else
  if p.kind = 1 ∧ 64 < p.txt.length then 5 else
  if p.kind = 2 ∧ p.num ≠ 0 ∧ p.num ≠ 1 then 7 else
  if (p.kind ≠ 1 ∧ p.txt ≠ []) ∨ (p.kind = 1 ∧ p.num ≠ 0) then 4 else 0
/-- what is wrong with a pair behind others -/
def pcode (p : Pr) (ahead : List Pr) : Nat := if bad p ≠ 0 then bad p else if there ahead p.key then 9 else 0
/-- what is wrong with a head -/
def hcode (l : List Pr) : Nat := if 8 < l.length then 6 else scan (fun i => pcode (pr l i) (l.take i)) l.length

/-- a number modulo 2^64 -/
def n64 (n : Int) : Nat := (n % 18446744073709551616).toNat
/-- and back -/
def i64 (n : Nat) : Int := if n < 9223372036854775808 then n else (n : Int) - 18446744073709551616
/-- what stands behind a pair's Kind -/
def pbody (p : Pr) : List UInt8 := if p.kind = 0 then Oct.be 8 (n64 p.num) else if p.kind = 1 then Oct.text p.txt else Oct.be 1 (n64 p.num)
/-- a pair's bytes -/
def penc (p : Pr) : List UInt8 := Oct.text p.key ++ Oct.be 1 p.kind ++ pbody p
/-- a head's bytes -/
def henc (l : List Pr) : List UInt8 := Oct.be 1 l.length ++ l.flatMap penc

/-! ### what was written is read -/
end Go.Proofs.YtgponfdcagnhhaaGreatDoor.Hd
end
