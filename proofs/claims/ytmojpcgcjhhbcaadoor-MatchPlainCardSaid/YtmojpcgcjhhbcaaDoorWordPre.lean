/-
  WHAT THE WORDS' TEXTS TAKE FROM BELOW, where a seat holds no lattice.
-/
import Derived.Test.YtmojpcgcjhhbcaaDoorOct
import Derived.Test.YtmojpcgcjhhbcaaDoorOfL
import Derived.WalkMore
import Derived.Deep.LoopGhost
namespace Go.Proofs.YtmojpcgcjhhbcaaDoor
open Go.ChangeShapes Go.WideShapes Go.ChangeAt Go.RowKit

theorem ret_two {a b c d : Value} (h1 : a = c) (h2 : b = d) : Ending.returned (.tuple #[a, b]) = .returned (.tuple #[c, d]) := by rw [h1, h2]
theorem head_at (s : ByteArray) (h : 0 < s.size) : s.data.toList.head? = some s[0] := by
  rw [List.head?_eq_getElem?]
  exact List.getElem?_eq_getElem h
theorem ret_three {a b c d e f : Value} (h1 : a = d) (h2 : b = e) (h3 : c = f) : Ending.returned (.tuple #[a, b, c]) = .returned (.tuple #[d, e, f]) := by rw [h1, h2, h3]
theorem drewN_below {B : Nat} {a w : World} (h : Below B a w) (n : Nat) : Below B a (w.drewN n) := ⟨h.os, h.tape, h.output, h.size, h.block⟩
theorem nil_of_size {s : ByteArray} (h : s.size = 0) : s = ⟨#[]⟩ := by
  cases s with
  | mk d => have : d = #[] := Array.size_eq_zero_iff.1 h
            rw [this]
theorem not_empty {s : ByteArray} (h : s.size ≠ 0) : s.toList.isEmpty = false := by
  rw [Go.ByteArray.toList_eq]
  cases hl : s.data.toList with
  | nil => exact absurd (by show s.data.size = 0; rw [← Array.length_toList, hl]; rfl) h
  | cons b l => rfl
theorem head_eq (s : ByteArray) (h : 0 < s.size) (b : UInt8) : s.data.toList.head? = some b ↔ ((s[0].toNat : Int) == (b.toNat : Int)) = true := by
  rw [head_at s h, beq_iff_eq, Option.some_inj]
  constructor
  · rintro rfl; rfl
  · intro h; exact UInt8.toNat_inj.1 (by omega)
theorem code_ne {n : Nat} (h : n ≠ 0) : ((n : Int) != 0) = true := by rw [bne_iff_ne]; omega
def Box (b : Nat) (x y : Value) (w : World) : Prop := w.cell? ⟨b, 0, none⟩ = some x ∧ w.cell? ⟨b, 1, none⟩ = some y ∧ ∀ j, w.frozen? ⟨b, j, none⟩ = false
theorem Box.new (x y : Value) (t : TypeId) (w : World) : Box w.heap.size x y (w.alloc (.cells #[x, y] t)) := ⟨cell_new _ _ _ _ _ rfl, cell_new _ _ _ _ _ rfl, fun _ => free_new _ _ _ _ _ rfl⟩
theorem Box.below {b B : Nat} {x y : Value} {w w' : World} (h : Box b x y w) (hb : Below B w w') (hB : b < B) : Box b x y w' :=
  ⟨(hb.cell (p := ⟨b, 0, none⟩) hB).trans h.1, (hb.cell (p := ⟨b, 1, none⟩) hB).trans h.2.1, fun j => (hb.frozen (p := ⟨b, j, none⟩) hB).trans (h.2.2 j)⟩
theorem code_eq {n : Nat} (h : n = 0) : ((n : Int) != 0) = false := by rw [h]; rfl
theorem octAwake2_any (w : World) : Calls Tryd.prog 35 #[] w fun x w' => x = .returned (.bool true) ∧ Below w.heap.size w w' := by
  go_enter Tryd.func35, Tryd.ntmps35
  go_wp2_with fail
  refine (octAwake_any _).mono ?_
  rintro x w1 ⟨rfl, b1⟩
  have B1 := Lib.hid b1
  clear b1
  go_wp2_with fail
  go_ret
  exact ⟨rfl, B1.out⟩
end Go.Proofs.YtmojpcgcjhhbcaaDoor
