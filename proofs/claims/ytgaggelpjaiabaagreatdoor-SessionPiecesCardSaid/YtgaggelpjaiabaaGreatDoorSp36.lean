/-
  THE PROGRAM'S CHECK OF A DEED: walked. A DEED's BYTES, the program's: walked.
-/
import Derived.Test.YtgaggelpjaiabaaGreatDoorSp05
import Derived.Test.YtgaggelpjaiabaaGreatDoorSp06
import Derived.Test.YtgaggelpjaiabaaGreatDoorSp14
import Derived.Test.YtgaggelpjaiabaaGreatDoorSp16
import Derived.Test.YtgaggelpjaiabaaGreatDoorSp18
import Derived.Test.YtgaggelpjaiabaaGreatDoorSp33
import Derived.Test.YtgaggelpjaiabaaGreatDoorSp35
import Derived.Deep.RegionHeld3
import Derived.Deep.DeepCutAuto
section
namespace Go.Proofs.YtgaggelpjaiabaaGreatDoor
open Go.ChangeShapes Go.WideShapes Go.ChangeAt Go.RowKit
/-- what told leaves -/
def ToldPost (x : De) (A : Option Addr) (B : Option Addr) (w : World) (e : Ending) (w' : World) : Prop := ∃ A' c' B' d', e = .returned (deV x.told A' c' B' d') ∧ (∀ W, Prs W A x.bind.want → Prs W A' x.told.bind.want) ∧ (∀ W, Prs W B x.mail.head → Prs W B' x.told.mail.head) ∧ x.told.bind.want.length ≤ x.bind.want.length ∧ x.told.mail.head.length ≤ x.mail.head.length ∧ Below w.heap.size w w'
theorem De.body_11 {x : De} (hk : x.kd = 11) : x.body = 0 := by unfold De.body; simp [hk]
theorem De.code_body {x : De} (h : ¬ 12 < x.kd) (hs : x = x.told) : x.code = x.body := by unfold De.code; rw [if_neg h, if_neg (fun g => g hs)]
end Go.Proofs.YtgaggelpjaiabaaGreatDoor
end
section
namespace Go.Proofs.YtgaggelpjaiabaaGreatDoor
open Go.ChangeShapes Go.WideShapes Go.ChangeAt Go.RowKit
namespace De
def tx (s : List UInt8) : List UInt8 := Oct.be 2 s.length ++ s
def E1 (x : De) : List UInt8 := Oct.be 1 x.kd ++ Oct.be 8 x.tick
/-- the bytes of one that may be -/
def enc (x : De) : List UInt8 :=
  if x.kd = 0 then E1 x ++ tx x.shop.name ++ Oct.be 1 x.shop.sort ++ tx x.shop.to else
  if x.kd = 2 then E1 x ++ tx x.q.name ++ Oct.be 8 x.q.most ++ Oct.be 8 x.q.life ++ tx x.q.dead else
  if x.kd = 4 ∨ x.kd = 5 then bdE x.bind (E1 x) else
  if x.kd = 1 ∨ x.kd = 3 ∨ x.kd = 7 then E1 x ++ tx x.name else
  if x.kd = 6 then E1 x ++ x.mail.enc else
  if x.kd = 8 then E1 x ++ tx x.name ++ Oct.be 8 x.id ++ Oct.be 1 x.how else
  if x.kd = 10 then E1 x ++ Oct.be 1 x.frm ++ Oct.be 8 x.num ++ x.mail.enc else
  if x.kd = 12 then E1 x ++ Oct.be 1 x.cd ++ tx x.text else
  E1 x
theorem enc_0 {x : De} (hk : x.kd = 0) : x.enc = E1 x ++ tx x.shop.name ++ Oct.be 1 x.shop.sort ++ tx x.shop.to := by unfold enc; simp [hk]
theorem enc_1 {x : De} (hk : x.kd = 1) : x.enc = E1 x ++ tx x.name := by unfold enc; simp [hk]
theorem enc_11 {x : De} (hk : x.kd = 11) : x.enc = E1 x := by unfold enc; simp [hk]
theorem code_zero {x : De} (h : x.code = 0) : ¬ 12 < x.kd ∧ x = x.told ∧ x.body = 0 := by
  unfold code at h
  by_cases h1 : 12 < x.kd
  · rw [if_pos h1] at h; omega
  · rw [if_neg h1] at h
    by_cases h2 : x ≠ x.told
    · rw [if_pos h2] at h; omega
    · rw [if_neg h2] at h
      exact ⟨h1, Decidable.not_not.1 h2, h⟩
end De
def deBytesV (x : De) : Value := if x.code = 0 then .tuple #[.string (ofL x.enc), .int .i64 0] else .tuple #[.string ⟨#[]⟩, .int .i64 (x.code : Int)]
/-- its box, and the box of what is written so far -/
structure DbS (w : World) (x : De) (A : Option Addr) (c : Nat) (B : Option Addr) (d g : Nat) (s : ByteArray) (W : World) : Prop where
  o : BoxC w g [.string s, .int .i64 0] W
  p : DeX w x A c B d w.heap.size W
  gg : w.heap.size < g
  B : Below w.heap.size w W
theorem DbS.on {w : World} {x : De} {A : Option Addr} {c : Nat} {B : Option Addr} {d g : Nat} {s : ByteArray} {W W' : World} (h : DbS w x A c B d g s W) (hb : Below W.heap.size W W') : DbS w x A c B d g s W' := ⟨h.o.on hb, h.p.on hb, h.gg, bthen h.B hb (Nat.le_refl _)⟩
def DbE (w : World) (x : De) (A : Option Addr) (c : Nat) (B : Option Addr) (d g : Nat) (W : World) : Prop := ∃ s, DbS w x A c B d g s W
theorem DbE.on {w : World} {x : De} {A : Option Addr} {c : Nat} {B : Option Addr} {d g : Nat} {W W' : World} (h : DbE w x A c B d g W) (hb : Below W.heap.size W W') : DbE w x A c B d g W' := by
  obtain ⟨s, h⟩ := h
  exact ⟨s, h.on hb⟩
theorem DbS.put {w : World} {x : De} {A : Option Addr} {c : Nat} {B : Option Addr} {d g : Nat} {s : ByteArray} {W : World} (h : DbS w x A c B d g s W) (hA : Prs w A x.bind.want) (hB : Prs w B x.mail.head) (y : ByteArray) : DbS w x A c B d g y ((W.setCell ⟨g, 0, none⟩ (.string y)).setCell ⟨g, 1, none⟩ (.int .i64 0)) := by
  have hb : Below w.heap.size w ((W.setCell ⟨g, 0, none⟩ (.string y)).setCell ⟨g, 1, none⟩ (.int .i64 0)) := (h.B.setCell (p := ⟨g, 0, none⟩) (Nat.le_of_lt h.gg) _).setCell (p := ⟨g, 1, none⟩) (Nat.le_of_lt h.gg) _
  exact ⟨(h.o.put 0 (.string y) (by simp)).put 1 (.int .i64 0) (by simp), ⟨(h.p.p.aside (Nat.ne_of_gt h.gg) 0 _).aside (Nat.ne_of_gt h.gg) 1 _, hA.on hb, hB.on hb⟩, h.gg, hb⟩
theorem BoxC.wk {w w2 W : World} {g : Nat} {xs : List Value} (h : BoxC w2 g xs W) (hs : w.heap.size ≤ w2.heap.size) : BoxC w g xs W := ⟨h.cs, h.s, h.lt, Nat.le_trans hs h.ge⟩
end Go.Proofs.YtgaggelpjaiabaaGreatDoor
end
