/-
  A MESSAGE's BYTES, as the document has them: walked.
-/
import Derived.Test.YtabnkbdbbneihaaGreatDoorLg20
import Derived.Test.YtabnkbdbbneihaaGreatDoorLg22
import Derived.Deep.RegionHeld3
import Derived.Deep.DeepCutAuto
section
namespace Go.Proofs.YtabnkbdbbneihaaGreatDoor
open Go.ChangeShapes Go.WideShapes Go.ChangeAt Go.RowKit
abbrev MdS (w : World) (x : Ml) (A : Option Addr) (c : Nat) (W : World) : Prop :=
  (W.cell? ⟨w.heap.size, 0, none⟩ = some (.int .u64 (x.id : Int)) ∧ W.cell? ⟨w.heap.size, 1, none⟩ = some (.string (ofL x.shop)) ∧ W.cell? ⟨w.heap.size, 2, none⟩ = some (.string (ofL x.key)) ∧ W.cell? ⟨w.heap.size, 3, none⟩ = some (.slice A x.head.length c) ∧ W.cell? ⟨w.heap.size, 4, none⟩ = some (.string (ofL x.body)) ∧ W.cell? ⟨w.heap.size, 5, none⟩ = some (.int .u64 (x.due : Int)) ∧ W.cell? ⟨w.heap.size, 6, none⟩ = some (.int .u8 (x.hops : Int)) ∧ w.heap.size < W.heap.size) ∧ MaX w x A c w.heap.size W
theorem MaX.s {w : World} {x : Ml} {A : Option Addr} {c : Nat} {W : World} (h : MaX w x A c w.heap.size W) : MdS w x A c W := ⟨⟨h.p.cs 0 _ rfl, h.p.cs 1 _ rfl, h.p.cs 2 _ rfl, h.p.cs 3 _ rfl, h.p.cs 4 _ rfl, h.p.cs 5 _ rfl, h.p.cs 6 _ rfl, h.p.lt⟩, h⟩
end Go.Proofs.YtabnkbdbbneihaaGreatDoor
end
