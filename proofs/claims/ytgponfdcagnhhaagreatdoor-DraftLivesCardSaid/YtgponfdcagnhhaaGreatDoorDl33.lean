/-
  READERS over lists of bytes: the program's Fail, the document's reader; what they are alike in.
-/
import Derived.Test.YtgponfdcagnhhaaGreatDoorDl16
import Derived.Test.YtgponfdcagnhhaaGreatDoorDl32

section
namespace Go.Proofs.YtgponfdcagnhhaaGreatDoor
open Go.ChangeShapes Go.WideShapes Go.ChangeAt Go.RowKit
/-- the document's reader, of bytes S -/
def RefL (b : Nat) (S : ByteArray) (s : LSt) (w : World) : Prop := RefIs b S (ofL s.1, s.2) w
theorem RefL.code {b : Nat} {S : ByteArray} {s : LSt} {w : World} (h : RefL b S s w) : w.cell? ⟨b, 2, none⟩ = some (.int .i64 s.2) := by
  obtain ⟨p, h⟩ := h
  exact h.c2
theorem RefL.new (l : List UInt8) (w : World) (t : TypeId) : RefL w.heap.size (ofL l) (l, 0) (w.alloc (.cells #[.string (ofL l), .int .i64 0, .int .i64 0] t)) :=
  ⟨0, cell_new _ _ _ _ _ rfl, cell_new _ _ _ _ _ rfl, cell_new _ _ _ _ _ rfl, fun j => free_new _ _ _ _ _ rfl, by simp, Nat.zero_le _, fun _ => by
    show ofL l = (ofL l).extract 0 (ofL l).size
    rw [extract_drop]
    rfl, fun h => absurd rfl h⟩
/-- what readers are alike in: a block of their own -/
structure Rder (b : Nat) (R : LSt → World → Prop) : Prop where
  lt : ∀ {s W}, R s W → b < W.heap.size
  on : ∀ {s W W'}, R s W → Below W.heap.size W W' → R s W'
  put : ∀ {s W} {g : Nat}, R s W → g ≠ b → ∀ j v, R s (W.setCell ⟨g, j, none⟩ v)
  gr : ∀ {s W W'} {row : Option Nat}, R s W → W.grownBy W' row → some b ≠ row → R s W'
theorem aside_cell {W : World} {g b : Nat} (h : g ≠ b) (j i : Nat) (v : Value) : (W.setCell ⟨g, j, none⟩ v).cell? ⟨b, i, none⟩ = W.cell? ⟨b, i, none⟩ :=
  World.cell?_setCell_other _ _ _ _ (by simp only [ne_eq, Addr.mk.injEq, not_and]; omega)
theorem grown_far {a w : World} {row : Option Nat} (h : a.grownBy w row) {g : Nat} (hg : a.heap.size ≤ g) (j : Nat) (v : Value) : a.grownBy (w.setCell ⟨g, j, none⟩ v) row :=
  ⟨h.os, h.tape, h.output, by simpa [World.setCell] using h.size, fun i hi hne => (Below.heap_setCell w ⟨g, j, none⟩ v i (by intro e; have e2 : i = g := e; omega)).trans (h.block i hi hne)⟩
theorem grown_below {a w w' : World} {row : Option Nat} (h : a.grownBy w row) (hb : Below w.heap.size w w') : a.grownBy w' row :=
  h.trans ⟨hb.os, hb.tape, hb.output, hb.size, fun k hk _ => hb.block k hk⟩
/-- a box of one's own, of so many cells -/
structure BoxC (w : World) (c : Nat) (xs : List Value) (W : World) : Prop where
  cs : Cels W c xs
  s : Soft W c
  lt : c < W.heap.size
  ge : w.heap.size ≤ c
theorem BoxC.on {w W W' : World} {c : Nat} {xs : List Value} (h : BoxC w c xs W) (hb : Below W.heap.size W W') : BoxC w c xs W' := ⟨h.cs.on hb h.lt, h.s.on hb h.lt, Nat.lt_of_lt_of_le h.lt hb.size, h.ge⟩
theorem BoxC.put {w W : World} {c : Nat} {xs : List Value} (h : BoxC w c xs W) (j : Nat) (v : Value) (hj : j < xs.length) : BoxC w c (xs.set j v) (W.setCell ⟨c, j, none⟩ v) :=
  ⟨h.cs.put j v hj, h.s.put _ _, by simpa [World.setCell] using h.lt, h.ge⟩
theorem BoxC.aside {w W : World} {c : Nat} {xs : List Value} (h : BoxC w c xs W) {g : Nat} (hg : g ≠ c) (j : Nat) (v : Value) : BoxC w c xs (W.setCell ⟨g, j, none⟩ v) :=
  ⟨h.cs.aside hg j v, h.s.put _ _, by simpa [World.setCell] using h.lt, h.ge⟩
theorem BoxC.new {w W : World} (hs : w.heap.size ≤ W.heap.size) (c : Array Value) (t : TypeId) : BoxC w W.heap.size c.toList (W.alloc (.cells c t)) := ⟨Cels.new _ _ _, Soft.new _ _ _, by simp, hs⟩
end Go.Proofs.YtgponfdcagnhhaaGreatDoor
end
