/-
  PLAIN: what a frame's body is made of: numbers, yes or no, texts, heads; read behind they were written, and written behind they were read. No program is spoken of here. PLAIN: methods: what a kind tells, what may be, their bytes, what is read. No program is spoken of here. PLAIN: replies: what a kind tells, what may be, their bytes, what is read. No program is spoken of here. WHAT A KIND TELLS, in memory: the programs' rows of parts; whether a part is in a row: walked.
-/
import Derived.Test.YtecjngodfciokaaGreatDoorCc05
import Derived.Test.YtecjngodfciokaaGreatDoorCc11
import Derived.Test.YtecjngodfciokaaGreatDoorCc16

section
namespace Go.Proofs.YtecjngodfciokaaGreatDoor.Pt
/-- a yes or no that comes next -/
def yesOut (s : LSt) : Bool := Oct.val (lOut s.1 1) == 1
def yesIn (s : LSt) : LSt := if 1 < Oct.val (lOut s.1 1) then lFail (lRaw s 1) 4 else lRaw s 1
def yesEnc (b : Bool) : List UInt8 := if b then [1] else [0]
/-! ### written, then read -/
/-! ### read, then written -/
theorem chain {s s1 s2 s3 : LSt} {a b c : List UInt8} (h1 : s = (a ++ s1.1, 0)) (h2 : s1 = (b ++ s2.1, 0)) (h3 : s2 = (c ++ s3.1, 0)) : s = (a ++ b ++ c ++ s3.1, 0) := by
  have e1 := congrArg Prod.fst h2
  have e2 := congrArg Prod.fst h3
  simp only at e1 e2
  rw [h1, e1, e2]
  simp [List.append_assoc]
end Go.Proofs.YtecjngodfciokaaGreatDoor.Pt
end
section
namespace Go.Proofs.YtecjngodfciokaaGreatDoor
structure Me where
  ch : UInt8
  kd : UInt8
  name : List UInt8
  other : List UInt8
  key : List UInt8
  head : List Hd.Pr
  body : List UInt8
  n : Nat
  m : Nat
  yes : Bool
deriving DecidableEq
namespace Me
def zero (c k : UInt8) : Me := ⟨c, k, [], [], [], [], [], 0, 0, false⟩
/-- what a kind tells, in the order of its bytes: 0 Name, 1 Other, 2 Key, 3 Head, 4 Body, 5 N, 6 M, 7 Yes -/
def tells (k : Nat) : List Nat :=
  match k with
  | 0 => [5]
  | 3 => [0, 5, 1]
  | 4 => [0]
  | 5 => [0, 5, 6, 1]
  | 6 => [0]
  | 7 => [0, 1, 2, 3, 7]
  | 8 => [0, 1, 2, 3, 7]
  | 9 => [0, 1, 2, 3, 7]
  | 10 => [0, 1, 2, 3, 7]
  | 11 => [0, 2, 3, 6, 4]
  | 12 => [5]
  | 13 => [0, 5]
  | 14 => [5]
  | 15 => [0]
  | 16 => [5, 6, 7]
  | _ => []
/-- what a kind tells, as the document says it -/
structure Has where
  name : Bool
  other : Bool
  lack : Bool
  key : Bool
  pat : Bool
  head : Bool
  body : Bool
  n : Bool
  m : Bool
  yes : Bool
def has (k : Nat) : Has :=
  match k with
  | 0 => ⟨false, false, false, false, false, false, false, true, false, false⟩
  | 3 => ⟨true, true, true, false, false, false, false, true, false, false⟩
  | 4 => ⟨true, false, false, false, false, false, false, false, false, false⟩
  | 5 => ⟨true, true, true, false, false, false, false, true, true, false⟩
  | 6 => ⟨true, false, false, false, false, false, false, false, false, false⟩
  | 7 => ⟨true, true, false, true, true, true, false, false, false, true⟩
  | 8 => ⟨true, true, false, true, true, true, false, false, false, true⟩
  | 9 => ⟨true, true, false, true, true, true, false, false, false, true⟩
  | 10 => ⟨true, true, false, true, true, true, false, false, false, true⟩
  | 11 => ⟨true, false, false, true, false, true, true, false, true, false⟩
  | 12 => ⟨false, false, false, false, false, false, false, true, false, false⟩
  | 13 => ⟨true, false, false, false, false, false, false, true, false, false⟩
  | 14 => ⟨false, false, false, false, false, false, false, true, false, false⟩
  | 15 => ⟨true, false, false, false, false, false, false, false, false, false⟩
  | 16 => ⟨false, false, false, false, false, false, false, true, true, true⟩
  | _ => ⟨false, false, false, false, false, false, false, false, false, false⟩
/-- is a part zero? -/
def lacks (x : Me) (p : Nat) : Bool :=
  if p = 0 then x.name == [] else if p = 1 then x.other == [] else if p = 2 then x.key == [] else if p = 3 then x.head.length == 0 else if p = 4 then x.body == [] else if p = 5 then x.n == 0 else if p = 6 then x.m == 0 else !x.yes
def ocode (x : Me) : Nat := if x.other = [] ∧ (x.kd.toNat = 3 ∨ x.kd.toNat = 5) then 0 else Wrd.nameCode x.other
def kcode (x : Me) : Nat := if x.kd.toNat = 11 then Wrd.keyCode [] x.key else Wrd.keyCode wild x.key
/-- what is wrong with a part -/
def pcode (x : Me) (p : Nat) : Nat :=
  if p = 0 then Wrd.nameCode x.name else if p = 1 then ocode x else if p = 2 then kcode x else if p = 3 then Hd.hcode x.head else if p = 4 then (if 256 < x.body.length then 5 else 0) else 0
/-- is something there that its kind doesn't tell? -/
def more (x : Me) : Bool := (List.range 8).any fun p => !(tells x.kd.toNat).contains p && !lacks x p
/-- the first code that isn't 0 -/
def firstc (f : Nat → Nat) : List Nat → Nat
  | [] => 0
  | p :: l => if f p ≠ 0 then f p else firstc f l
/-- what is wrong with a method -/
def code (x : Me) : Nat := if 20 < x.kd.toNat then 8 else if more x then 4 else firstc (pcode x) (tells x.kd.toNat)
theorem firstc_zero {f : Nat → Nat} {l : List Nat} (h : firstc f l = 0) : ∀ p ∈ l, f p = 0 := by
  induction l with
  | nil => intro p hp; simp at hp
  | cons a l ih =>
    rw [firstc] at h
    by_cases h0 : f a = 0
    · rw [if_neg (by omega)] at h
      intro p hp
      rcases List.mem_cons.1 hp with rfl | hp
      · exact h0
      · exact ih h p hp
    · rw [if_pos h0] at h; exact absurd h h0
theorem code_ok {x : Me} (h : code x = 0) : x.kd.toNat ≤ 20 ∧ more x = false ∧ ∀ p ∈ tells x.kd.toNat, pcode x p = 0 := by
  unfold code at h
  by_cases h1 : 20 < x.kd.toNat
  · rw [if_pos h1] at h; omega
  · rw [if_neg h1] at h
    cases hm : more x with
    | true => rw [hm] at h; simp at h
    | false =>
      rw [hm] at h
      exact ⟨by omega, rfl, firstc_zero (by simpa using h)⟩
/-- numbers that their types hold -/
structure Fits (x : Me) : Prop where
  n : x.n < 18446744073709551616
  m : x.m < 18446744073709551616
  head : ∀ p ∈ x.head, Hd.Fits p

/-! ### its bytes -/
def enc1 (x : Me) (p : Nat) : List UInt8 :=
  if p = 0 then Oct.text x.name else if p = 1 then Oct.text x.other else if p = 2 then Oct.text x.key else if p = 3 then Hd.henc x.head else if p = 4 then Oct.text x.body else if p = 5 then Oct.be 8 x.n else if p = 6 then Oct.be 8 x.m else if p = 7 then Pt.yesEnc x.yes else []
def enc (x : Me) : List UInt8 := (tells x.kd.toNat).flatMap (enc1 x)
/-- the part that comes next -/
def rd1 (y : Me) (s : LSt) (p : Nat) : Me × LSt :=
  if p = 0 then ({y with name := lTextOut s 16}, lText s 16) else if p = 1 then ({y with other := lTextOut s 16}, lText s 16) else if p = 2 then ({y with key := lTextOut s 64}, lText s 64) else if p = 3 then ({y with head := (Hd.hread s).1}, (Hd.hread s).2) else if p = 4 then ({y with body := lTextOut s 256}, lText s 256) else if p = 5 then ({y with n := Oct.val (lOut s.1 8)}, lRaw s 8) else if p = 6 then ({y with m := Oct.val (lOut s.1 8)}, lRaw s 8) else if p = 7 then ({y with yes := Pt.yesOut s}, Pt.yesIn s) else (y, s)
theorem key_len {bs : List (List UInt8)} {l : List UInt8} (h : Wrd.keyCode bs l = 0) : l.length ≤ 64 := by
  unfold Wrd.keyCode at h
  by_cases h1 : 64 < l.length
  · rw [if_pos h1] at h; omega
  · omega
/-! ### what was read is written so -/
end Me
end Go.Proofs.YtecjngodfciokaaGreatDoor
end
section
namespace Go.Proofs.YtecjngodfciokaaGreatDoor
structure Re where
  ch : UInt8
  kd : UInt8
  n : Nat
  m : Nat
  yes : Bool
  name : List UInt8
  id : Nat
  shop : List UInt8
  key : List UInt8
  head : List Hd.Pr
  body : List UInt8
  due : Nat
  hops : Nat
deriving DecidableEq
namespace Re
def zero (c k : UInt8) : Re := ⟨c, k, 0, 0, false, [], 0, [], [], [], [], 0, 0⟩
/-- what a kind tells, in the order of its bytes: 0 N, 1 M, 2 Yes, 3 Name, 4 Shop, 5 Key, 6 Head, 7 Body -/
def tells (k : Nat) : List Nat :=
  match k with
  | 0 => [3]
  | 2 => [0]
  | 3 => [0, 1, 2, 4, 5, 6, 7]
  | 5 => [0]
  | 6 => [0, 1]
  | 7 => [0]
  | _ => []
/-- is a part zero? -/
def lacks (x : Re) (p : Nat) : Bool :=
  if p = 0 then x.n == 0 else if p = 1 then x.m == 0 else if p = 2 then !x.yes else if p = 3 then x.name == [] else if p = 4 then x.shop == [] else if p = 5 then x.key == [] else if p = 6 then x.head.length == 0 else if p = 7 then x.body == [] else (x.id == 0 && x.due == 0 && x.hops == 0)
/-- what is wrong with a part -/
def pcode (x : Re) (p : Nat) : Nat :=
  if p = 3 then Wrd.nameCode x.name else if p = 4 then Wrd.nameCode x.shop else if p = 5 then Wrd.keyCode [] x.key else if p = 6 then Hd.hcode x.head else if p = 7 then (if 256 < x.body.length then 5 else 0) else 0
/-- is something there that its kind doesn't tell? -/
def more (x : Re) : Bool := (List.range 9).any fun p => !(tells x.kd.toNat).contains p && !lacks x p
/-- the first code that isn't 0 -/
def firstc (f : Nat → Nat) : List Nat → Nat
  | [] => 0
  | p :: l => if f p ≠ 0 then f p else firstc f l
/-- what is wrong with a reply -/
def code (x : Re) : Nat := if 7 < x.kd.toNat then 8 else if more x then 4 else firstc (pcode x) (tells x.kd.toNat)
theorem firstc_zero {f : Nat → Nat} {l : List Nat} (h : firstc f l = 0) : ∀ p ∈ l, f p = 0 := by
  induction l with
  | nil => intro p hp; simp at hp
  | cons a l ih =>
    rw [firstc] at h
    by_cases h0 : f a = 0
    · rw [if_neg (by omega)] at h
      intro p hp
      rcases List.mem_cons.1 hp with rfl | hp
      · exact h0
      · exact ih h p hp
    · rw [if_pos h0] at h; exact absurd h h0
theorem code_ok {x : Re} (h : code x = 0) : x.kd.toNat ≤ 7 ∧ more x = false ∧ ∀ p ∈ tells x.kd.toNat, pcode x p = 0 := by
  unfold code at h
  by_cases h1 : 7 < x.kd.toNat
  · rw [if_pos h1] at h; omega
  · rw [if_neg h1] at h
    cases hm : more x with
    | true => rw [hm] at h; simp at h
    | false =>
      rw [hm] at h
      exact ⟨by omega, rfl, firstc_zero (by simpa using h)⟩
/-- numbers that their types hold -/
structure Fits (x : Re) : Prop where
  n : x.n < 18446744073709551616
  m : x.m < 18446744073709551616
  head : ∀ p ∈ x.head, Hd.Fits p

/-! ### its bytes -/
def enc1 (x : Re) (p : Nat) : List UInt8 :=
  if p = 0 then Oct.be 8 x.n else if p = 1 then Oct.be 8 x.m else if p = 2 then Pt.yesEnc x.yes else if p = 3 then Oct.text x.name else if p = 4 then Oct.text x.shop else if p = 5 then Oct.text x.key else if p = 6 then Hd.henc x.head else if p = 7 then Oct.text x.body else []
def enc (x : Re) : List UInt8 := (tells x.kd.toNat).flatMap (enc1 x)
/-- the part that comes next -/
def rd1 (y : Re) (s : LSt) (p : Nat) : Re × LSt :=
  if p = 0 then ({y with n := Oct.val (lOut s.1 8)}, lRaw s 8) else if p = 1 then ({y with m := Oct.val (lOut s.1 8)}, lRaw s 8) else if p = 2 then ({y with yes := Pt.yesOut s}, Pt.yesIn s) else if p = 3 then ({y with name := lTextOut s 16}, lText s 16) else if p = 4 then ({y with shop := lTextOut s 16}, lText s 16) else if p = 5 then ({y with key := lTextOut s 64}, lText s 64) else if p = 6 then ({y with head := (Hd.hread s).1}, (Hd.hread s).2) else if p = 7 then ({y with body := lTextOut s 256}, lText s 256) else (y, s)
/-- a frame's kind, a reply's -/
def up (k : UInt8) : UInt8 := 64 + k
theorem key_len {bs : List (List UInt8)} {l : List UInt8} (h : Wrd.keyCode bs l = 0) : l.length ≤ 64 := by
  unfold Wrd.keyCode at h
  by_cases h1 : 64 < l.length
  · rw [if_pos h1] at h; omega
  · omega
/-! ### what was read is written so -/
end Re
end Go.Proofs.YtecjngodfciokaaGreatDoor
end
section
namespace Go.Proofs.YtecjngodfciokaaGreatDoor
open Go.ChangeShapes Go.WideShapes Go.ChangeAt Go.RowKit
/-- a row of parts -/
def Parts (w : World) (A : Option Addr) (l : List Nat) : Prop := l = [] ∨ ∃ b, A = some ⟨b, 0, none⟩ ∧ b < w.heap.size ∧ Cels w b (l.map fun (p : Nat) => Value.int .i64 (p : Int))
theorem Parts.on {w w' : World} {A : Option Addr} {l : List Nat} (h : Parts w A l) (hb : Below w.heap.size w w') : Parts w' A l := by
  rcases h with h | ⟨b, e, hl, hc⟩
  · exact Or.inl h
  · exact Or.inr ⟨b, e, Nat.lt_of_lt_of_le hl hb.size, hc.on hb hl⟩
theorem Parts.at_ {w : World} {A : Option Addr} {l : List Nat} (h : Parts w A l) {k : Nat} (hk : k < l.length) : ∃ b, A = some ⟨b, 0, none⟩ ∧ b < w.heap.size ∧ w.cell? ⟨b, k, none⟩ = some (.int .i64 ((l.getD k 0 : Nat) : Int)) := by
  rcases h with rfl | ⟨b, e, hl, hc⟩
  · simp at hk
  · refine ⟨b, e, hl, ?_⟩
    refine hc k _ ?_
    rw [List.getElem?_map, List.getElem?_eq_getElem hk]
    simp [List.getD_eq_getElem?_getD, List.getElem?_eq_getElem hk]
theorem Parts.aside {w : World} {A : Option Addr} {l : List Nat} (h : Parts w A l) {g : Nat} (hne : ∀ a, A = some a → g ≠ a.block) (j : Nat) (v : Value) : Parts (w.setCell ⟨g, j, none⟩ v) A l := by
  rcases h with h | ⟨b, e, hl, hc⟩
  · exact Or.inl h
  · exact Or.inr ⟨b, e, by simpa [World.setCell] using hl, hc.aside (hne _ e) j v⟩
theorem Parts.grown {w w' : World} {A : Option Addr} {l : List Nat} {row : Option Nat} (h : Parts w A l) (hg : w.grownBy w' row) (hne : ∀ a, A = some a → some a.block ≠ row) : Parts w' A l := by
  rcases h with h | ⟨b, e, hl, hc⟩
  · exact Or.inl h
  · exact Or.inr ⟨b, e, Nat.lt_of_lt_of_le hl hg.size, hc.grown hg (hne _ e)⟩
end Go.Proofs.YtecjngodfciokaaGreatDoor
end
