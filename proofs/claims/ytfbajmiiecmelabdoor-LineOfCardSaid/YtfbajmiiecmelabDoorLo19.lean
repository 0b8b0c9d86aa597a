/-
  A HEAD's BYTES: the document's, walked. THE DOCUMENT's OWN READER, walked: it answers, and leaves, what the program's reader does. READERS over lists of bytes: the program's Fail, the document's reader; what they are alike in.
-/
import Derived.Test.YtfbajmiiecmelabDoorLo02
import Derived.Test.YtfbajmiiecmelabDoorLo03
import Derived.Test.YtfbajmiiecmelabDoorLo09
import Derived.Test.YtfbajmiiecmelabDoorLo18
import Derived.Deep.RegionHeld3
import Derived.Deep.DeepCutAuto
section
namespace Go.Proofs.YtfbajmiiecmelabDoor
open Go.ChangeShapes Go.WideShapes Go.ChangeAt Go.RowKit
abbrev RbS (w : World) (b : Nat) (k : List UInt8) (kd : Nat) (n : Int) (t : List UInt8) (W : World) : Prop :=
  (W.cell? ⟨b, 0, none⟩ = some (.string (ofL k)) ∧ W.cell? ⟨b, 1, none⟩ = some (.int .u8 (kd : Int)) ∧ b < W.heap.size) ∧ Below w.heap.size w W ∧ PrAt W b 0 ⟨k, kd, n, t⟩ ∧ b < W.heap.size
theorem RbS.on {w : World} {b : Nat} {k : List UInt8} {kd : Nat} {n : Int} {t : List UInt8} {W W' : World} (h : RbS w b k kd n t W) (hb : Below W.heap.size W W') : RbS w b k kd n t W' := by
  obtain ⟨⟨h0, h1, h2⟩, h3, h4, h5⟩ := h
  have hp := h4.below hb h5
  exact ⟨⟨hp.c0, hp.c1, Nat.lt_of_lt_of_le h2 hb.size⟩, bthen h3 hb (Nat.le_refl _), hp, Nat.lt_of_lt_of_le h5 hb.size⟩
end Go.Proofs.YtfbajmiiecmelabDoor
end
section
namespace Go.Proofs.YtfbajmiiecmelabDoor
open Go.ChangeShapes Go.WideShapes Go.ChangeAt Go.RowKit
/-- the document's reader lies in block b: its text, its place, its error; beside what a reader has by then -/
structure RefAt (b : Nat) (s : ByteArray) (p : Nat) (st : St) (w : World) : Prop where
  c0 : w.cell? ⟨b, 0, none⟩ = some (.string s)
  c1 : w.cell? ⟨b, 1, none⟩ = some (.int .i64 (p : Int))
  c2 : w.cell? ⟨b, 2, none⟩ = some (.int .i64 st.2)
  fr : ∀ j, w.frozen? ⟨b, j, none⟩ = false
  lt : b < w.heap.size
  le : p ≤ s.size
  rest : st.2 = 0 → st.1 = s.extract p s.size
  ok : st.ok
def RefIs (b : Nat) (s : ByteArray) (st : St) (w : World) : Prop := ∃ p, RefAt b s p st w
theorem RefAt.code {b : Nat} {s : ByteArray} {p : Nat} {st : St} {w : World} (h : RefAt b s p st w) (c : Int) (hc : c ≠ 0) : RefAt b s p (ByteArray.empty, c) (w.setCell ⟨b, 2, none⟩ (.int .i64 c)) :=
  ⟨(World.cell?_setCell_other _ _ _ _ (ne_cell b 2 0 (by decide))).trans h.c0, (World.cell?_setCell_other _ _ _ _ (ne_cell b 2 1 (by decide))).trans h.c1, World.cell?_setCell_same _ _ _ h.c2,
    fun j => by rw [World.frozen?_setCell]; exact h.fr j, by have := h.lt; simp [World.setCell]; exact this, h.le, fun h0 => absurd h0 hc, fun _ => rfl⟩
theorem RefAt.drewN {b : Nat} {s : ByteArray} {p : Nat} {st : St} {w : World} (h : RefAt b s p st w) (n : Nat) : RefAt b s p st (w.drewN n) := ⟨h.c0, h.c1, h.c2, h.fr, h.lt, h.le, h.rest, h.ok⟩
theorem RefAt.move {b : Nat} {s : ByteArray} {p : Nat} {st : St} {w : World} (h : RefAt b s p st w) (m : Nat) (hm : p + m ≤ s.size) (h0 : st.2 = 0) : RefAt b s (p + m) (s.extract (p + m) s.size, 0) (w.setCell ⟨b, 1, none⟩ (.int .i64 ((p : Int) + m))) :=
  ⟨(World.cell?_setCell_other _ _ _ _ (ne_cell b 1 0 (by decide))).trans h.c0, (World.cell?_setCell_same _ _ _ h.c1).trans (by rw [Int.natCast_add]), (World.cell?_setCell_other _ _ _ _ (ne_cell b 1 2 (by decide))).trans (h.c2.trans (by rw [h0])),
    fun j => by rw [World.frozen?_setCell]; exact h.fr j, by have := h.lt; simp [World.setCell]; exact this, hm, fun _ => rfl, fun h => absurd rfl h⟩
theorem RefAt.size {b : Nat} {s : ByteArray} {p : Nat} {st : St} {w : World} (h : RefAt b s p st w) (h0 : st.2 = 0) : (st.1.size : Int) = (s.size : Int) - p := by
  rw [h.rest h0, ByteArray.size_extract]
  have := h.le
  omega

end Go.Proofs.YtfbajmiiecmelabDoor
end
section
namespace Go.Proofs.YtfbajmiiecmelabDoor
open Go.ChangeShapes Go.WideShapes Go.ChangeAt Go.RowKit
/-- the document's reader, of bytes S -/
def RefL (b : Nat) (S : ByteArray) (s : LSt) (w : World) : Prop := RefIs b S (ofL s.1, s.2) w
theorem RefL.code {b : Nat} {S : ByteArray} {s : LSt} {w : World} (h : RefL b S s w) : w.cell? ⟨b, 2, none⟩ = some (.int .i64 s.2) := by
  obtain ⟨p, h⟩ := h
  exact h.c2
theorem RefL.new (l : List UInt8) (w : World) (t : TypeId) : RefL w.heap.size (ofL l) (l, 0) (w.alloc (.cells #[.string (ofL l), .int .i64 0, .int .i64 0] t)) :=
  ⟨0, cell_new _ _ _ _ _ rfl, cell_new _ _ _ _ _ rfl, cell_new _ _ _ _ _ rfl, fun j => free_new _ _ _ _ _ rfl, by simp, Nat.zero_le _, fun _ => by
    show ofL l = (ofL l).extract 0 (ofL l).size
    rw [extract_drop]
    rfl, fun h => absurd rfl h⟩
/-- what readers are alike in: a block of their own -/
structure Rder (b : Nat) (R : LSt → World → Prop) : Prop where
  lt : ∀ {s W}, R s W → b < W.heap.size
  on : ∀ {s W W'}, R s W → Below W.heap.size W W' → R s W'
  put : ∀ {s W} {g : Nat}, R s W → g ≠ b → ∀ j v, R s (W.setCell ⟨g, j, none⟩ v)
  gr : ∀ {s W W'} {row : Option Nat}, R s W → W.grownBy W' row → some b ≠ row → R s W'
theorem aside_cell {W : World} {g b : Nat} (h : g ≠ b) (j i : Nat) (v : Value) : (W.setCell ⟨g, j, none⟩ v).cell? ⟨b, i, none⟩ = W.cell? ⟨b, i, none⟩ :=
  World.cell?_setCell_other _ _ _ _ (by simp only [ne_eq, Addr.mk.injEq, not_and]; omega)
theorem grown_new {a w w' : World} {row row2 : Option Nat} (h : a.grownBy w row) (h2 : w.grownBy w' row2) (hn : ∀ k, row2 = some k → a.heap.size ≤ k) : a.grownBy w' row :=
  ⟨h2.os.trans h.os, h2.tape.trans h.tape, h2.output.trans h.output, Nat.le_trans h.size h2.size, fun k hk hne => (h2.block k (Nat.lt_of_lt_of_le hk h.size) (fun e => by have := hn k e.symm; omega)).trans (h.block k hk hne)⟩
theorem grown_far {a w : World} {row : Option Nat} (h : a.grownBy w row) {g : Nat} (hg : a.heap.size ≤ g) (j : Nat) (v : Value) : a.grownBy (w.setCell ⟨g, j, none⟩ v) row :=
  ⟨h.os, h.tape, h.output, by simpa [World.setCell] using h.size, fun i hi hne => (Below.heap_setCell w ⟨g, j, none⟩ v i (by intro e; have e2 : i = g := e; omega)).trans (h.block i hi hne)⟩
theorem grown_below {a w w' : World} {row : Option Nat} (h : a.grownBy w row) (hb : Below w.heap.size w w') : a.grownBy w' row :=
  h.trans ⟨hb.os, hb.tape, hb.output, hb.size, fun k hk _ => hb.block k hk⟩
/-- a box of one's own, of so many cells -/
structure BoxC (w : World) (c : Nat) (xs : List Value) (W : World) : Prop where
  cs : Cels W c xs
  s : Soft W c
  lt : c < W.heap.size
  ge : w.heap.size ≤ c
theorem BoxC.on {w W W' : World} {c : Nat} {xs : List Value} (h : BoxC w c xs W) (hb : Below W.heap.size W W') : BoxC w c xs W' := ⟨h.cs.on hb h.lt, h.s.on hb h.lt, Nat.lt_of_lt_of_le h.lt hb.size, h.ge⟩
theorem BoxC.grown {w W W' : World} {c b : Nat} {xs : List Value} (h : BoxC w c xs W) (hg : W.grownBy W' (some b)) (hne : c ≠ b) : BoxC w c xs W' :=
  ⟨h.cs.grown hg (fun e => hne (Option.some.inj e)), h.s.grown hg h.lt (fun e => hne (Option.some.inj e)), Nat.lt_of_lt_of_le h.lt hg.size, h.ge⟩
theorem BoxC.put {w W : World} {c : Nat} {xs : List Value} (h : BoxC w c xs W) (j : Nat) (v : Value) (hj : j < xs.length) : BoxC w c (xs.set j v) (W.setCell ⟨c, j, none⟩ v) :=
  ⟨h.cs.put j v hj, h.s.put _ _, by simpa [World.setCell] using h.lt, h.ge⟩
theorem BoxC.aside {w W : World} {c : Nat} {xs : List Value} (h : BoxC w c xs W) {g : Nat} (hg : g ≠ c) (j : Nat) (v : Value) : BoxC w c xs (W.setCell ⟨g, j, none⟩ v) :=
  ⟨h.cs.aside hg j v, h.s.put _ _, by simpa [World.setCell] using h.lt, h.ge⟩
theorem BoxC.new {w W : World} (hs : w.heap.size ≤ W.heap.size) (c : Array Value) (t : TypeId) : BoxC w W.heap.size c.toList (W.alloc (.cells c t)) := ⟨Cels.new _ _ _, Soft.new _ _ _, by simp, hs⟩
end Go.Proofs.YtfbajmiiecmelabDoor
end
