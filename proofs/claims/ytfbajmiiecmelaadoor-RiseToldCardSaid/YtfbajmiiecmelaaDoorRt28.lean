/-
  A HEAD's BYTES: the document's, walked. THE DOCUMENT's OWN READER, walked: it answers, and leaves, what the program's reader does.
-/
import Derived.Test.YtfbajmiiecmelaaDoorRt02
import Derived.Test.YtfbajmiiecmelaaDoorRt08
import Derived.Test.YtfbajmiiecmelaaDoorRt27
import Derived.Deep.RegionHeld3
import Derived.Deep.DeepCutAuto
section
namespace Go.Proofs.YtfbajmiiecmelaaDoor
open Go.ChangeShapes Go.WideShapes Go.ChangeAt Go.RowKit
abbrev RbS (w : World) (b : Nat) (k : List UInt8) (kd : Nat) (n : Int) (t : List UInt8) (W : World) : Prop :=
  (W.cell? ⟨b, 0, none⟩ = some (.string (ofL k)) ∧ W.cell? ⟨b, 1, none⟩ = some (.int .u8 (kd : Int)) ∧ b < W.heap.size) ∧ Below w.heap.size w W ∧ PrAt W b 0 ⟨k, kd, n, t⟩ ∧ b < W.heap.size
theorem RbS.on {w : World} {b : Nat} {k : List UInt8} {kd : Nat} {n : Int} {t : List UInt8} {W W' : World} (h : RbS w b k kd n t W) (hb : Below W.heap.size W W') : RbS w b k kd n t W' := by
  obtain ⟨⟨h0, h1, h2⟩, h3, h4, h5⟩ := h
  have hp := h4.below hb h5
  exact ⟨⟨hp.c0, hp.c1, Nat.lt_of_lt_of_le h2 hb.size⟩, bthen h3 hb (Nat.le_refl _), hp, Nat.lt_of_lt_of_le h5 hb.size⟩
end Go.Proofs.YtfbajmiiecmelaaDoor
end
section
namespace Go.Proofs.YtfbajmiiecmelaaDoor
open Go.ChangeShapes Go.WideShapes Go.ChangeAt Go.RowKit
/-- the document's reader lies in block b: its text, its place, its error; beside what a reader has by then -/
structure RefAt (b : Nat) (s : ByteArray) (p : Nat) (st : St) (w : World) : Prop where
  c0 : w.cell? ⟨b, 0, none⟩ = some (.string s)
  c1 : w.cell? ⟨b, 1, none⟩ = some (.int .i64 (p : Int))
  c2 : w.cell? ⟨b, 2, none⟩ = some (.int .i64 st.2)
  fr : ∀ j, w.frozen? ⟨b, j, none⟩ = false
  lt : b < w.heap.size
  le : p ≤ s.size
  rest : st.2 = 0 → st.1 = s.extract p s.size
  ok : st.ok
def RefIs (b : Nat) (s : ByteArray) (st : St) (w : World) : Prop := ∃ p, RefAt b s p st w
theorem RefAt.code {b : Nat} {s : ByteArray} {p : Nat} {st : St} {w : World} (h : RefAt b s p st w) (c : Int) (hc : c ≠ 0) : RefAt b s p (ByteArray.empty, c) (w.setCell ⟨b, 2, none⟩ (.int .i64 c)) :=
  ⟨(World.cell?_setCell_other _ _ _ _ (ne_cell b 2 0 (by decide))).trans h.c0, (World.cell?_setCell_other _ _ _ _ (ne_cell b 2 1 (by decide))).trans h.c1, World.cell?_setCell_same _ _ _ h.c2,
    fun j => by rw [World.frozen?_setCell]; exact h.fr j, by have := h.lt; simp [World.setCell]; exact this, h.le, fun h0 => absurd h0 hc, fun _ => rfl⟩
theorem RefAt.drewN {b : Nat} {s : ByteArray} {p : Nat} {st : St} {w : World} (h : RefAt b s p st w) (n : Nat) : RefAt b s p st (w.drewN n) := ⟨h.c0, h.c1, h.c2, h.fr, h.lt, h.le, h.rest, h.ok⟩
theorem RefAt.move {b : Nat} {s : ByteArray} {p : Nat} {st : St} {w : World} (h : RefAt b s p st w) (m : Nat) (hm : p + m ≤ s.size) (h0 : st.2 = 0) : RefAt b s (p + m) (s.extract (p + m) s.size, 0) (w.setCell ⟨b, 1, none⟩ (.int .i64 ((p : Int) + m))) :=
  ⟨(World.cell?_setCell_other _ _ _ _ (ne_cell b 1 0 (by decide))).trans h.c0, (World.cell?_setCell_same _ _ _ h.c1).trans (by rw [Int.natCast_add]), (World.cell?_setCell_other _ _ _ _ (ne_cell b 1 2 (by decide))).trans (h.c2.trans (by rw [h0])),
    fun j => by rw [World.frozen?_setCell]; exact h.fr j, by have := h.lt; simp [World.setCell]; exact this, hm, fun _ => rfl, fun h => absurd rfl h⟩
theorem RefAt.size {b : Nat} {s : ByteArray} {p : Nat} {st : St} {w : World} (h : RefAt b s p st w) (h0 : st.2 = 0) : (st.1.size : Int) = (s.size : Int) - p := by
  rw [h.rest h0, ByteArray.size_extract]
  have := h.le
  omega

end Go.Proofs.YtfbajmiiecmelaaDoor
end
