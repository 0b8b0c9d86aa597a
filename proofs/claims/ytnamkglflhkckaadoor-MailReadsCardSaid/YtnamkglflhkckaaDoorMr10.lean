/-
  WHAT THE WORDS' TEXTS TAKE FROM BELOW, where a seat holds no lattice.
-/
import Derived.Test.YtnamkglflhkckaaDoorMr03
import Derived.Test.YtnamkglflhkckaaDoorMr05
import Derived.WalkMore
import Derived.Deep.LoopGhost
section
namespace Go.Proofs.YtnamkglflhkckaaDoor
open Go.ChangeShapes Go.WideShapes Go.ChangeAt Go.RowKit
theorem drewN_below {B : Nat} {a w : World} (h : Below B a w) (n : Nat) : Below B a (w.drewN n) := ⟨h.os, h.tape, h.output, h.size, h.block⟩
theorem not_empty {s : ByteArray} (h : s.size ≠ 0) : s.toList.isEmpty = false := by
  rw [Go.ByteArray.toList_eq]
  cases hl : s.data.toList with
  | nil => exact absurd (by show s.data.size = 0; rw [← Array.length_toList, hl]; rfl) h
  | cons b l => rfl
theorem code_ne {n : Nat} (h : n ≠ 0) : ((n : Int) != 0) = true := by rw [bne_iff_ne]; omega
def Box (b : Nat) (x y : Value) (w : World) : Prop := w.cell? ⟨b, 0, none⟩ = some x ∧ w.cell? ⟨b, 1, none⟩ = some y ∧ ∀ j, w.frozen? ⟨b, j, none⟩ = false
theorem Box.new (x y : Value) (t : TypeId) (w : World) : Box w.heap.size x y (w.alloc (.cells #[x, y] t)) := ⟨cell_new _ _ _ _ _ rfl, cell_new _ _ _ _ _ rfl, fun _ => free_new _ _ _ _ _ rfl⟩
theorem Box.below {b B : Nat} {x y : Value} {w w' : World} (h : Box b x y w) (hb : Below B w w') (hB : b < B) : Box b x y w' :=
  ⟨(hb.cell (p := ⟨b, 0, none⟩) hB).trans h.1, (hb.cell (p := ⟨b, 1, none⟩) hB).trans h.2.1, fun j => (hb.frozen (p := ⟨b, j, none⟩) hB).trans (h.2.2 j)⟩
theorem code_eq {n : Nat} (h : n = 0) : ((n : Int) != 0) = false := by rw [h]; rfl
theorem octAwake2_any (w : World) : Calls Tryd.prog 93 #[] w fun x w' => x = .returned (.bool true) ∧ Below w.heap.size w w' := by
  go_enter Tryd.func93, Tryd.ntmps93
  go_wp2_with fail
  refine (octAwake_any _).mono ?_
  rintro x w1 ⟨rfl, b1⟩
  have B1 := Lib.hid b1
  clear b1
  go_wp2_with fail
  go_ret
  exact ⟨rfl, B1.out⟩
end Go.Proofs.YtnamkglflhkckaaDoor
end
