/-
  THE FRAME THAT BYTES BEGIN WITH: the program's Parse, walked.
-/
import Derived.Test.YtaoidjjmeejbbaaDoorMs44
import Derived.StillTailTactics
section
namespace Go.Proofs.YtaoidjjmeejbbaaDoor
open Go.ChangeShapes Go.WideShapes Go.ChangeAt Go.RowKit
/-- three cells of a block of one's own -/
structure Tri (b : Nat) (x y z : Value) (w : World) : Prop where
  c0 : w.cell? ⟨b, 0, none⟩ = some x
  c1 : w.cell? ⟨b, 1, none⟩ = some y
  c2 : w.cell? ⟨b, 2, none⟩ = some z
  fz : ∀ j, w.frozen? ⟨b, j, none⟩ = false
theorem Tri.lt {b : Nat} {x y z : Value} {w : World} (h : Tri b x y z w) : b < w.heap.size := World.block_lt_of_cell? w _ h.c0
theorem Tri.new (w : World) (x y z : Value) (t : TypeId) : Tri w.heap.size x y z (w.alloc (.cells #[x, y, z] t)) :=
  ⟨cell_new _ _ _ _ _ rfl, cell_new _ _ _ _ _ rfl, cell_new _ _ _ _ _ rfl, fun _ => free_new _ _ _ _ _ rfl⟩
theorem Tri.far {b g : Nat} {x y z : Value} {w w' : World} (h : Tri b x y z w) (hg : w.grownBy w' (some g)) (hne : b ≠ g) : Tri b x y z w' := by
  have n : some b ≠ some g := by simpa using hne
  exact ⟨hg.cell h.c0 n, hg.cell h.c1 n, hg.cell h.c2 n, fun j => (World.frozen?_of_block (a := ⟨b, j, none⟩) (hg.block b h.lt n)).trans (h.fz j)⟩
theorem Tri.on {b B : Nat} {x y z : Value} {w w' : World} (h : Tri b x y z w) (hb : Below B w w') (hB : b < B) : Tri b x y z w' :=
  ⟨(hb.cell (p := ⟨b, 0, none⟩) hB).trans h.c0, (hb.cell (p := ⟨b, 1, none⟩) hB).trans h.c1, (hb.cell (p := ⟨b, 2, none⟩) hB).trans h.c2, fun j => (hb.frozen (p := ⟨b, j, none⟩) hB).trans (h.fz j)⟩
theorem InL.on {b B : Nat} {s : LSt} {w w' : World} (h : InL b s w) (hb : Below B w w') (hB : b < B) : InL b s w' :=
  ⟨(hb.cell (p := ⟨b, 0, none⟩) hB).trans h.c0, (hb.cell (p := ⟨b, 1, none⟩) hB).trans h.c1, fun j => (hb.frozen (p := ⟨b, j, none⟩) hB).trans (h.fr j), Nat.lt_of_lt_of_le h.lt hb.size⟩

/-- while a frame is read: what is answered lies behind the old blocks, then the reader, then the frame -/
structure PrS (w : World) (s : LSt) (x y z : Value) (wr : World) : Prop where
  inl : InL (w.heap.size + 1) s wr
  res : Tri w.heap.size (.int .u8 0) (.int .u8 0) (.string ⟨#[]⟩) wr
  frm : Tri (w.heap.size + 1 + 1) x y z wr
  below : Below w.heap.size w wr
theorem PrS.call {w : World} {s s' : LSt} {x y z : Value} {wr w' : World} (h : PrS w s x y z wr) (h1 : InL (w.heap.size + 1) s' w') (g : wr.grownBy w' (some (w.heap.size + 1))) : PrS w s' x y z w' :=
  ⟨h1, h.res.far g (by omega), h.frm.far g (by omega), below_in h.below g h.below.size (by omega)⟩
theorem PrS.on {w : World} {s : LSt} {x y z : Value} {wr w' : World} (h : PrS w s x y z wr) (hb : Below wr.heap.size wr w') : PrS w s x y z w' :=
  ⟨h.inl.on hb h.inl.lt, h.res.on hb h.res.lt, h.frm.on hb h.frm.lt, bthen h.below hb (Nat.le_refl _)⟩
theorem PrS.start (w : World) (l : List UInt8) : PrS w (l, 0) (.int .u8 0) (.int .u8 0) (.string ⟨#[]⟩) (((w.alloc (.cells #[.int .u8 0, .int .u8 0, .string ⟨#[]⟩] 46)).alloc (.cells #[.string (ofL l), .int .i64 0] 111)).alloc (.cells #[.int .u8 0, .int .u8 0, .string ⟨#[]⟩] 46)) := by
  have t1 := Tri.new w (.int .u8 0) (.int .u8 0) (.string ⟨#[]⟩) 46
  have b1 : Below w.heap.size w (w.alloc (.cells #[.int .u8 0, .int .u8 0, .string ⟨#[]⟩] 46)) := (Below.refl _ _).alloc (Nat.le_refl _) _
  have e1 : (w.alloc (.cells #[.int .u8 0, .int .u8 0, .string ⟨#[]⟩] 46)).heap.size = w.heap.size + 1 := by simp
  generalize w.alloc (.cells #[.int .u8 0, .int .u8 0, .string ⟨#[]⟩] 46) = w1 at *
  have b2 : Below w1.heap.size w1 (w1.alloc (.cells #[.string (ofL l), .int .i64 0] 111)) := (Below.refl _ _).alloc (Nat.le_refl _) _
  have i2 : InL w1.heap.size (l, 0) (w1.alloc (.cells #[.string (ofL l), .int .i64 0] 111)) := ⟨cell_new _ _ _ _ _ rfl, cell_new _ _ _ _ _ rfl, fun j => free_new _ _ _ _ _ rfl, by simp⟩
  have e2 : (w1.alloc (.cells #[.string (ofL l), .int .i64 0] 111)).heap.size = w.heap.size + 1 + 1 := by simp [e1]
  generalize w1.alloc (.cells #[.string (ofL l), .int .i64 0] 111) = w2 at *
  have t3 := Tri.new w2 (.int .u8 0) (.int .u8 0) (.string ⟨#[]⟩) 46
  have b3 : Below w2.heap.size w2 (w2.alloc (.cells #[.int .u8 0, .int .u8 0, .string ⟨#[]⟩] 46)) := (Below.refl _ _).alloc (Nat.le_refl _) _
  rw [e2] at t3
  rw [e1] at i2
  exact ⟨i2.on b3 (by omega), (t1.on b2 (by omega)).on b3 (by omega), t3, bthen (bthen b1 b2 (Nat.le_refl _)) b3 (Nat.le_refl _)⟩
end Go.Proofs.YtaoidjjmeejbbaaDoor
end
