/-
  WHETHER A KEY MATCHES A PATTERN, walked: the program's.
-/
import Derived.Test.YtgponfdcagnhhaaGreatDoorDl20
import Derived.Deep.OwnRows
section
namespace Go.Proofs.YtgponfdcagnhhaaGreatDoor
open Go.ChangeShapes Go.WideShapes Go.ChangeAt Go.RowKit
/-- a row of truths in memory -/
def Row (w : World) (g n : Nat) (f : Nat → Bool) : Prop := w.rowIs g 4 n (fun j => .bool (f j))
def upto (k : Nat) (f : Nat → Bool) : Nat → Bool := fun j => decide (j < k) && f j
theorem Row.made (w : World) (n : Nat) (f : Nat → Bool) : Row (w.alloc (.cells (madeCells #[.bool false] n) 4)) w.heap.size n (upto 0 f) :=
  (World.rowIs_made w (.bool false) n 4).congr fun _ _ => by unfold upto; simp
theorem Row.put {w : World} {g n k : Nat} {f : Nat → Bool} (h : Row w g n (upto k f)) {b : Bool} (hb : b = f k) : Row (w.setCell ⟨g, k, none⟩ (.bool b)) g n (upto (k + 1) f) := by
  refine (World.rowIs.set h k (.bool b)).congr fun j _ => ?_
  unfold upto
  by_cases e : j = k
  · rw [if_pos e, hb, e]; simp
  · rw [if_neg e]
    have : decide (j < k + 1) = decide (j < k) := by rw [Bool.eq_iff_iff]; simp; omega
    rw [this]
theorem Row.all {w : World} {g n : Nat} {f : Nat → Bool} (h : Row w g n (upto n f)) : Row w g n f :=
  World.rowIs.congr h fun j hj => by unfold upto; simp [hj]
theorem Row.cell {w : World} {g n : Nat} {f : Nat → Bool} (h : Row w g n f) {j : Nat} (hj : j < n) : w.cell? ⟨g, j, none⟩ = some (.bool (f j)) := World.rowIs.cell h hj
theorem Row.on {w w' : World} {g n B : Nat} {f : Nat → Bool} (h : Row w g n f) (hb : Below B w w') (hg : g < B) : Row w' g n f := World.rowIs.of_block h (hb.block g hg)
theorem Row.lt {w : World} {g n : Nat} {f : Nat → Bool} (h : Row w g n f) : g < w.heap.size := World.rowIs.lt h
end Go.Proofs.YtgponfdcagnhhaaGreatDoor
end
