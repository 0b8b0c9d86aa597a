/-
  A PUT MORE IN A DRAFT OF THE SAME PUTS: walked.
-/
import Derived.Test.YtecjngodfciokaaGreatDoorDp15
import Derived.Test.YtecjngodfciokaaGreatDoorDp16
import Derived.Test.YtecjngodfciokaaGreatDoorDp31
import Derived.BigFrame
import Derived.Deep.RegionHeld3
import Derived.Deep.DeepCutAuto
section
namespace Go.Proofs.YtecjngodfciokaaGreatDoor
open Go.ChangeShapes Go.WideShapes Go.ChangeAt Go.RowKit
theorem prs_grown {w w' : World} {A : Option Addr} {l : List Hd.Pr} (h : Prs w A l) (hg : w.grownBy w' none) : Prs w' A l := h.grown hg (fun a _ e => by cases e)
/-- the boxes: the deed's, what is more, what is told -/
structure AdW (w : World) (t : Nat) (m : Ml) (B : Option Addr) (d : Nat) (A : Option Addr) (n c g8 : Nat) (W : World) : Prop where
  e : BoxC w g8 (deL (Df t m) none 0 B d) W
  mo : BoxC w (w.heap.size + 2) [.slice A n c] W
  r : BoxC w (w.heap.size + 1) [.slice none 0 0] W
  x : BoxC w w.heap.size [.slice A n c] W
  B : Below w.heap.size w W
  gg : w.heap.size + 2 < g8
theorem AdW.on {w : World} {t : Nat} {m : Ml} {B : Option Addr} {d : Nat} {A : Option Addr} {n c g8 : Nat} {W W' : World} (h : AdW w t m B d A n c g8 W) (hb : Below W.heap.size W W') : AdW w t m B d A n c g8 W' := ⟨h.e.on hb, h.mo.on hb, h.r.on hb, h.x.on hb, bthen h.B hb (Nat.le_refl _), h.gg⟩
theorem AdW.grown {w : World} {t : Nat} {m : Ml} {B : Option Addr} {d : Nat} {A : Option Addr} {n c g8 : Nat} {W W' : World} (h : AdW w t m B d A n c g8 W) (hg : W.grownBy W' none) : AdW w t m B d A n c g8 W' := ⟨rtKept h.e hg (by simp), rtKept h.mo hg (by simp), rtKept h.r hg (by simp), rtKept h.x hg (by simp), h.B.grown hg h.B.size (fun k hk => by cases hk), h.gg⟩
end Go.Proofs.YtecjngodfciokaaGreatDoor
end
