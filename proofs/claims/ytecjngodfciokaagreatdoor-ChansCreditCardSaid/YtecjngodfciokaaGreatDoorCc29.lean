/-
  WHEN WHAT LIVES SO LONG IS GONE: walked, the program's and the document's. PLAIN: messages: what may be, their bytes, what is read. No program is spoken of here. PLAIN: deeds: what they tell, what may be, their bytes. No program is spoken of here.
-/
import Derived.Test.YtecjngodfciokaaGreatDoorCc02
import Derived.Test.YtecjngodfciokaaGreatDoorCc05
import Derived.Test.YtecjngodfciokaaGreatDoorCc06
import Derived.Test.YtecjngodfciokaaGreatDoorCc17

section
namespace Go.Proofs.YtecjngodfciokaaGreatDoor
open Go.ChangeShapes Go.WideShapes Go.ChangeAt Go.RowKit
def lifeN (t l : Nat) : Nat := if l = 0 ∨ 18446744073709551616 ≤ t + l then 0 else t + l
theorem life_0 (t : Nat) : lifeN t 0 = 0 := by unfold lifeN; rw [if_pos (Or.inl rfl)]
theorem life_big {t l : Nat} (h : 18446744073709551616 ≤ t + l) : lifeN t l = 0 := by unfold lifeN; rw [if_pos (Or.inr h)]
theorem life_some {t l : Nat} (h : l ≠ 0) (h2 : t + l < 18446744073709551616) : lifeN t l = t + l := by unfold lifeN; rw [if_neg (by omega)]
set_option maxRecDepth 100000 in
theorem drLife_any (t l : Nat) (w : World) (ht : t < 18446744073709551616) (hl : l < 18446744073709551616) : Calls Tryz.prog 25 #[.int .u64 (t : Int), .int .u64 (l : Int)] w fun e w' => e = .returned (.int .u64 (lifeN t l : Int)) ∧ w = w' := by
  by_cases h0 : l = 0
  · subst h0
    rw [life_0]
    have hw : IntKind.u64.wrap ((t : Int) + 0) = (t : Int) := by rw [IntKind.wrap_u64]; omega
    have hw2 : IntKind.u64.wrap (t : Int) = (t : Int) := by rw [IntKind.wrap_u64]; omega
    go_enter Tryz.func25, Tryz.ntmps25
    go_wp2_with fail
    go_ret
    exact ⟨rfl, rfl⟩
  · have hz : ((l : Int) == 0) = false := beq_eq_false_iff_ne.2 (by omega)
    by_cases hb : 18446744073709551616 ≤ t + l
    · have HE := Lib.hid (life_big hb)
      have hw : IntKind.u64.wrap ((t : Int) + (l : Int)) = ((t + l - 18446744073709551616 : Nat) : Int) := by rw [IntKind.wrap_u64]; omega
      have hlt : t + l - 18446744073709551616 < t := by omega
      generalize t + l - 18446744073709551616 = v at *
      have hd : decide ((v : Int) < (t : Int)) = true := decide_eq_true (by omega)
      clear hb ht hl h0
      go_enter Tryz.func25, Tryz.ntmps25
      go_wp2_with fail
      go_ret
      exact ⟨by rw [HE.out]; rfl, rfl⟩
    · have HE := Lib.hid (life_some h0 (Nat.lt_of_not_le hb))
      have hw : IntKind.u64.wrap ((t : Int) + (l : Int)) = ((t + l : Nat) : Int) := by rw [IntKind.wrap_u64]; omega
      have hlt : ¬ t + l < t := by omega
      generalize t + l = v at *
      have hd : decide ((v : Int) < (t : Int)) = false := decide_eq_false (by omega)
      clear hb ht hl h0
      go_enter Tryz.func25, Tryz.ntmps25
      go_wp2_with fail
      go_ret
      exact ⟨by rw [HE.out]; rfl, rfl⟩
end Go.Proofs.YtecjngodfciokaaGreatDoor
end
section
namespace Go.Proofs.YtecjngodfciokaaGreatDoor
structure Ml where
  id : Nat
  shop : List UInt8
  key : List UInt8
  head : List Hd.Pr
  body : List UInt8
  due : Nat
  hops : Nat
deriving DecidableEq
namespace Ml
def zero : Ml := ⟨0, [], [], [], [], 0, 0⟩
/-- what is wrong with a message -/
def code (x : Ml) : Nat :=
  if Wrd.nameCode x.shop ≠ 0 then Wrd.nameCode x.shop else
  if Wrd.keyCode [] x.key ≠ 0 then Wrd.keyCode [] x.key else
  if Hd.hcode x.head ≠ 0 then Hd.hcode x.head else
  if 256 < x.body.length then 5 else
  if 4 < x.hops then 7 else 0
/-- numbers that their types hold -/
structure Fits (x : Ml) : Prop where
  id : x.id < 18446744073709551616
  due : x.due < 18446744073709551616
  hops : x.hops < 256
  head : ∀ p ∈ x.head, Hd.Fits p
theorem code_ok {x : Ml} (h : code x = 0) : Wrd.nameCode x.shop = 0 ∧ Wrd.keyCode [] x.key = 0 ∧ Hd.hcode x.head = 0 ∧ x.body.length ≤ 256 ∧ x.hops ≤ 4 := by
  unfold code at h
  by_cases h1 : Wrd.nameCode x.shop = 0
  · rw [if_neg (by omega)] at h
    by_cases h2 : Wrd.keyCode [] x.key = 0
    · rw [if_neg (by omega)] at h
      by_cases h3 : Hd.hcode x.head = 0
      · rw [if_neg (by omega)] at h
        by_cases h4 : 256 < x.body.length
        · rw [if_pos h4] at h; omega
        · rw [if_neg h4] at h
          by_cases h5 : 4 < x.hops
          · rw [if_pos h5] at h; omega
          · exact ⟨h1, h2, h3, by omega, by omega⟩
      · rw [if_pos h3] at h; exact absurd h h3
    · rw [if_pos h2] at h; exact absurd h h2
  · rw [if_pos h1] at h; exact absurd h h1
/-- its bytes, as far as its head -/
def enc (x : Ml) : List UInt8 := Oct.be 8 x.id ++ (Oct.text x.shop ++ (Oct.text x.key ++ (Hd.henc x.head ++ (Oct.text x.body ++ (Oct.be 8 x.due ++ Oct.be 1 x.hops)))))
/-- what is read, field by field -/
def s1 (s : LSt) : LSt := lRaw s 8
def s2 (s : LSt) : LSt := lText (s1 s) 16
def s3 (s : LSt) : LSt := lText (s2 s) 64
def s4 (s : LSt) : LSt := (Hd.hread (s3 s)).2
def s5 (s : LSt) : LSt := lText (s4 s) 256
theorem key_len {bs : List (List UInt8)} {l : List UInt8} (h : Wrd.keyCode bs l = 0) : l.length ≤ 64 := by
  unfold Wrd.keyCode at h
  by_cases h1 : 64 < l.length
  · rw [if_pos h1] at h; omega
  · omega
end Ml
end Go.Proofs.YtecjngodfciokaaGreatDoor
end
section
namespace Go.Proofs.YtecjngodfciokaaGreatDoor
structure Qu where
  name : List UInt8
  most : Nat
  life : Nat
  dead : List UInt8
deriving DecidableEq
structure De where
  kd : Nat
  tick : Nat
  shop : Sh
  q : Qu
  bind : Bd
  name : List UInt8
  id : Nat
  how : Nat
  frm : Nat
  cd : Nat
  num : Nat
  mail : Ml
  text : List UInt8
deriving DecidableEq
namespace De
def Qu0 : Qu := ⟨[], 0, 0, []⟩
def zero : De := ⟨0, 0, Bk.Sh0, Qu0, Bk.Bd0, [], 0, 0, 0, 0, 0, Ml.zero, []⟩
def of (k t : Nat) : De := ⟨k, t, Bk.Sh0, Qu0, Bk.Bd0, [], 0, 0, 0, 0, 0, Ml.zero, []⟩
def names (k : Nat) : Bool := k == 1 || k == 3 || k == 7 || k == 8
/-- what its kind tells -/
def told (x : De) : De :=
  if x.kd = 0 then { of x.kd x.tick with shop := x.shop } else
  if x.kd = 2 then { of x.kd x.tick with q := x.q } else
  if x.kd = 4 ∨ x.kd = 5 then { of x.kd x.tick with bind := x.bind } else
  if x.kd = 1 ∨ x.kd = 3 ∨ x.kd = 7 then { of x.kd x.tick with name := x.name } else
  if x.kd = 6 then { of x.kd x.tick with mail := x.mail } else
  if x.kd = 8 then { of x.kd x.tick with name := x.name, id := x.id, how := x.how } else
  if x.kd = 10 then { of x.kd x.tick with frm := x.frm, num := x.num, mail := x.mail } else
  if x.kd = 12 then { of x.kd x.tick with cd := x.cd, text := x.text } else of x.kd x.tick
/-- a name, or nothing -/
def maybe (s : List UInt8) : Nat := if s = [] then 0 else Wrd.nameCode s
/-- what is wrong with what is told of an exchange, a queue, a binding -/
def shc (x : Sh) : Nat := if Wrd.nameCode x.name ≠ 0 then Wrd.nameCode x.name else if 4 < x.sort then 8 else maybe x.to
def quc (x : Qu) : Nat := if Wrd.nameCode x.name ≠ 0 then Wrd.nameCode x.name else maybe x.dead
def bdc (x : Bd) : Nat := if Wrd.nameCode x.shop ≠ 0 then Wrd.nameCode x.shop else if Wrd.nameCode x.to ≠ 0 then Wrd.nameCode x.to else if 64 < x.key.length then 5 else Hd.hcode x.want
def stc (x : De) : Nat := if Wrd.nameCode x.name ≠ 0 then Wrd.nameCode x.name else if 2 < x.how then 7 else 0
def body (x : De) : Nat :=
  if x.kd = 0 then shc x.shop else
  if x.kd = 2 then quc x.q else
  if x.kd = 4 ∨ x.kd = 5 then bdc x.bind else
  if x.kd = 1 ∨ x.kd = 3 ∨ x.kd = 7 then Wrd.nameCode x.name else
  if x.kd = 6 ∨ x.kd = 10 then x.mail.code else
  if x.kd = 8 then stc x else
  if x.kd = 12 then (if 64 < x.text.length then 5 else 0) else 0
/-- what is wrong with it first -/
def code (x : De) : Nat := if 12 < x.kd then 8 else if x ≠ x.told then 4 else body x
/-- numbers that their types hold -/
structure Fits (x : De) : Prop where
  kd : x.kd < 256
  tick : x.tick < 18446744073709551616
  sort : x.shop.sort < 256
  most : x.q.most < 18446744073709551616
  life : x.q.life < 18446744073709551616
  want : ∀ p ∈ x.bind.want, Hd.Fits p
  id : x.id < 18446744073709551616
  how : x.how < 256
  frm : x.frm < 256
  cd : x.cd < 256
  num : x.num < 18446744073709551616
  mail : Ml.Fits x.mail
end De
end Go.Proofs.YtecjngodfciokaaGreatDoor
end
