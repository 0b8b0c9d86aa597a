/-
  PLAIN: policies: what may be, what is wrong first. No program is spoken of here.
-/
import Derived.Test.YtokljdaofjgihaaGreatDoorLatMath
import Derived.Test.YtokljdaofjgihaaGreatDoorWordMath
namespace Go.Proofs.YtokljdaofjgihaaGreatDoor.Pl

structure Plc where
  name : List UInt8
  lv : Nat
  set : Nat
  bytes : Int
  base : Nat
def Plc.zero : Plc := ⟨[], 0, 0, 0, 0⟩
structure Grn where
  fr : Int
  to : Int
  bud : Int
def Grn.zero : Grn := ⟨0, 0, 0⟩
structure Pol where
  work : Int
  give : Int
  places : List Plc
  slots : List Int
  grants : List Grn
def Pol.zero : Pol := ⟨0, 0, [], [], []⟩

/-- the first of n codes that isn't 0 -/
def scan (f : Nat → Nat) : Nat → Nat
  | 0 => 0
  | n + 1 => if scan f n ≠ 0 then scan f n else f n
theorem scan_zero {f : Nat → Nat} {n : Nat} (h : ∀ i, i < n → f i = 0) : scan f n = 0 := by
  induction n with
  | zero => rfl
  | succ n ih =>
    have h1 := ih fun i hi => h i (by omega)
    rw [scan, if_neg (by rw [h1]; simp), h n (by omega)]
theorem scan_at {f : Nat → Nat} {n k : Nat} (hk : k < n) (h : ∀ i, i < k → f i = 0) (hf : f k ≠ 0) : scan f n = f k := by
  induction n with
  | zero => omega
  | succ n ih =>
    by_cases e : k = n
    · subst e
      rw [scan, if_neg (by rw [scan_zero h]; simp)]
    · have := ih (by omega)
      rw [scan, if_pos (by rw [this]; exact hf), this]
theorem scan_none {f : Nat → Nat} {n : Nat} (h : scan f n = 0) : ∀ i, i < n → f i = 0 := by
  induction n with
  | zero => intro i hi; omega
  | succ n ih =>
    rw [scan] at h
    by_cases h1 : scan f n = 0
    · rw [if_neg (by rw [h1]; simp)] at h
      intro i hi
      by_cases e : i = n
      · rw [e]; exact h
      · exact ih h1 i (by omega)
    · rw [if_pos h1] at h; exact absurd h h1

def within (n a b : Int) : Bool := decide (a ≤ n) && decide (n ≤ b)
theorem within_iff {n a b : Int} : within n a b = true ↔ a ≤ n ∧ n ≤ b := by unfold within; simp
def plcSame (x y : Plc) : Bool := y.name == x.name || (y.lv == x.lv && y.set == x.set)
def plcFine (x : Plc) : Bool := decide (x.lv ≤ 15) && within x.bytes 0 65536 && decide (x.base ≠ 0)
def plcCode (ahead : List Plc) (x : Plc) : Nat :=
  if Wrd.nameCode x.name ≠ 0 then Wrd.nameCode x.name else if plcFine x then (if ahead.any (plcSame x) then 9 else 0) else 7
def counted (n most : Nat) : Nat := if n = 0 then 15 else if most < n then 6 else 0
def plc (l : List Plc) (i : Nat) : Plc := l.getD i Plc.zero
def grn (l : List Grn) (i : Nat) : Grn := l.getD i Grn.zero
def placesCode (l : List Plc) : Nat :=
  if counted l.length 16 ≠ 0 then counted l.length 16 else scan (fun i => plcCode (l.take i) (plc l i)) l.length
def has (n : Nat) (i : Int) : Bool := within i 0 ((n : Int) - 1)
def slotsCode (n : Nat) (l : List Int) : Nat :=
  if counted l.length 32 ≠ 0 then counted l.length 32 else scan (fun i => if has n (l.getD i 0) then 0 else 10) l.length
def under (l : List Plc) (i j : Int) : Bool := Lat.under (plc l i.toNat).lv (plc l i.toNat).set (plc l j.toNat).lv (plc l j.toNat).set
def grnSame (x y : Grn) : Bool := x.fr == y.fr && x.to == y.to
def grnCode (l : List Plc) (ahead : List Grn) (x : Grn) : Nat :=
  if has l.length x.fr && has l.length x.to then
    (if under l x.fr x.to then 11 else if within x.bud 0 16 then (if ahead.any (grnSame x) then 9 else 0) else 7)
  else 10
def grantsCode (l : List Plc) (g : List Grn) : Nat :=
  if 8 < g.length then 6 else scan (fun i => grnCode l (g.take i) (grn g i)) g.length
def turnsCode (n : Nat) (s : List Int) : Nat := scan (fun i => if s.contains (i : Int) then 0 else 15) n
/-- may a policy be, or what is wrong first -/
def check (p : Pol) : Nat :=
  if within p.work 1 16 && within p.give 1 16 then
    (if placesCode p.places ≠ 0 then placesCode p.places
     else if slotsCode p.places.length p.slots ≠ 0 then slotsCode p.places.length p.slots
     else if grantsCode p.places p.grants ≠ 0 then grantsCode p.places p.grants
     else turnsCode p.places.length p.slots)
  else 7
/-- the first place of a name -/
def find (l : List Plc) (s : List UInt8) : Int := match l.findIdx? (fun x => x.name == s) with | some i => (i : Int) | none => -1
def flows (p : Pol) (i j : Int) : Bool := decide (i ≠ j) && has p.places.length i && has p.places.length j && under p.places i j
def grant (p : Pol) (i j : Int) : Int := match p.grants.findIdx? (fun x => grnSame ⟨i, j, 0⟩ x) with | some k => (k : Int) | none => -1
end Go.Proofs.YtokljdaofjgihaaGreatDoor.Pl
