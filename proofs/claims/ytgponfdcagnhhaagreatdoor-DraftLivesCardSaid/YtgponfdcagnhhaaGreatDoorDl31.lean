/-
  A HEAD's BYTES: the document's, walked.
-/
import Derived.Test.YtgponfdcagnhhaaGreatDoorDl03
import Derived.Test.YtgponfdcagnhhaaGreatDoorDl30
import Derived.Deep.RegionHeld3
import Derived.Deep.DeepCutAuto
section
namespace Go.Proofs.YtgponfdcagnhhaaGreatDoor
open Go.ChangeShapes Go.WideShapes Go.ChangeAt Go.RowKit
abbrev RbS (w : World) (b : Nat) (k : List UInt8) (kd : Nat) (n : Int) (t : List UInt8) (W : World) : Prop :=
  (W.cell? ⟨b, 0, none⟩ = some (.string (ofL k)) ∧ W.cell? ⟨b, 1, none⟩ = some (.int .u8 (kd : Int)) ∧ b < W.heap.size) ∧ Below w.heap.size w W ∧ PrAt W b 0 ⟨k, kd, n, t⟩ ∧ b < W.heap.size
theorem RbS.on {w : World} {b : Nat} {k : List UInt8} {kd : Nat} {n : Int} {t : List UInt8} {W W' : World} (h : RbS w b k kd n t W) (hb : Below W.heap.size W W') : RbS w b k kd n t W' := by
  obtain ⟨⟨h0, h1, h2⟩, h3, h4, h5⟩ := h
  have hp := h4.below hb h5
  exact ⟨⟨hp.c0, hp.c1, Nat.lt_of_lt_of_le h2 hb.size⟩, bthen h3 hb (Nat.le_refl _), hp, Nat.lt_of_lt_of_le h5 hb.size⟩
end Go.Proofs.YtgponfdcagnhhaaGreatDoor
end
