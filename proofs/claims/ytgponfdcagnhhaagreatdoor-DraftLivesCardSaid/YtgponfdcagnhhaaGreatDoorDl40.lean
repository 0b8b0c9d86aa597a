/-
  A MESSAGE's BYTES: walked.
-/
import Derived.Test.YtgponfdcagnhhaaGreatDoorDl30
import Derived.Test.YtgponfdcagnhhaaGreatDoorDl39
import Derived.Deep.RegionHeld3
import Derived.Deep.DeepCutAuto
section
namespace Go.Proofs.YtgponfdcagnhhaaGreatDoor
open Go.ChangeShapes Go.WideShapes Go.ChangeAt Go.RowKit
/-- its box, the box of what is written so far -/
structure MbC (w : World) (x : Ml) (A : Option Addr) (c g : Nat) (W : World) : Prop where
  o : ∃ (s : ByteArray) (e : Int), W.cell? ⟨g, 0, none⟩ = some (.string s) ∧ W.cell? ⟨g, 1, none⟩ = some (.int .i64 e)
  so : ∀ j, W.frozen? ⟨g, j, none⟩ = false
  p : BoxC w w.heap.size (maL x A c) W
  lg : g < W.heap.size
  gg : w.heap.size < g
  B : Below w.heap.size w W
theorem MbC.on {w : World} {x : Ml} {A : Option Addr} {c g : Nat} {W W' : World} (h : MbC w x A c g W) (hb : Below W.heap.size W W') : MbC w x A c g W' := by
  obtain ⟨s, e, h0, h1⟩ := h.o
  exact ⟨⟨s, e, (hb.cell (p := ⟨g, 0, none⟩) h.lg).trans h0, (hb.cell (p := ⟨g, 1, none⟩) h.lg).trans h1⟩, fun j => (hb.frozen (p := ⟨g, j, none⟩) h.lg).trans (h.so j), h.p.on hb, Nat.lt_of_lt_of_le h.lg hb.size, h.gg, bthen h.B hb (Nat.le_refl _)⟩
abbrev MbS (w : World) (x : Ml) (A : Option Addr) (c g : Nat) (W : World) : Prop :=
  (W.cell? ⟨w.heap.size, 0, none⟩ = some (.int .u64 (x.id : Int)) ∧ W.cell? ⟨w.heap.size, 1, none⟩ = some (.string (ofL x.shop)) ∧ W.cell? ⟨w.heap.size, 2, none⟩ = some (.string (ofL x.key)) ∧ W.cell? ⟨w.heap.size, 3, none⟩ = some (.slice A x.head.length c) ∧ W.cell? ⟨w.heap.size, 4, none⟩ = some (.string (ofL x.body)) ∧ W.cell? ⟨w.heap.size, 5, none⟩ = some (.int .u64 (x.due : Int)) ∧ W.cell? ⟨w.heap.size, 6, none⟩ = some (.int .u8 (x.hops : Int)) ∧ w.heap.size < W.heap.size) ∧ MbC w x A c g W
theorem MbC.s {w : World} {x : Ml} {A : Option Addr} {c g : Nat} {W : World} (h : MbC w x A c g W) : MbS w x A c g W := ⟨⟨h.p.cs 0 _ rfl, h.p.cs 1 _ rfl, h.p.cs 2 _ rfl, h.p.cs 3 _ rfl, h.p.cs 4 _ rfl, h.p.cs 5 _ rfl, h.p.cs 6 _ rfl, h.p.lt⟩, h⟩
theorem MbS.on {w : World} {x : Ml} {A : Option Addr} {c g : Nat} {W W' : World} (h : MbS w x A c g W) (hb : Below W.heap.size W W') : MbS w x A c g W' := (h.2.on hb).s
end Go.Proofs.YtgponfdcagnhhaaGreatDoor
end
