/-
  OCTET's CALLS, walked: the numbers and texts that are written, the numbers that are read; the examples of chapter 1.
-/
import Derived.Test.YtgponfdcagnhhaaGreatDoorDl02
import Derived.Test.YtgponfdcagnhhaaGreatDoorRows
import Derived.WalkKit
import Derived.ProofKit
import Derived.OpenShut
import Derived.Laws.BitsAllLaws
import Derived.WalkLawsBesides
import Derived.WalkSpells
import Derived.Lib.Hide
import Derived.Below
import Derived.RegionTactic
import Derived.LoopN
import Derived.Laws.IdiomStrings
import Derived.Deep.RegionWith
import Derived.Deep.DrawnRows
import Derived.Outline
import Derived.Laws.ResultCell
import Derived.BigQuiet
import Derived.Deep.QuietTactic
section
namespace Go.Proofs.YtgponfdcagnhhaaGreatDoor
open Go.ChangeShapes Go.WideShapes Go.ChangeAt Go.RowKit
theorem bthen {B : Nat} {w w1 w2 : World} (h : Below B w w1) (h2 : Below w1.heap.size w1 w2) (hB : B ≤ w.heap.size) : Below B w w2 := h.trans (h2.mono (Nat.le_trans hB h.size))

theorem cell_new (W : World) (c : Array Value) (t : TypeId) (g i : Nat) (hg : g = W.heap.size) : (W.alloc (.cells c t)).cell? ⟨g, i, none⟩ = c[i]? := by
  subst hg; exact World.cell?_alloc_new W c t i
theorem cell_old (W : World) (o : Obj) (g i : Nat) (hg : g < W.heap.size) : (W.alloc o).cell? ⟨g, i, none⟩ = W.cell? ⟨g, i, none⟩ := World.cell?_alloc_lt W o ⟨g, i, none⟩ hg
theorem free_new (W : World) (c : Array Value) (t : TypeId) (g i : Nat) (hg : g = W.heap.size) : (W.alloc (.cells c t)).frozen? ⟨g, i, none⟩ = false := by
  subst hg; exact World.frozen?_alloc_new W c t i
theorem free_old (W : World) (o : Obj) (g i : Nat) (hg : g < W.heap.size) : (W.alloc o).frozen? ⟨g, i, none⟩ = W.frozen? ⟨g, i, none⟩ := World.frozen?_alloc_old W o ⟨g, i, none⟩ (Nat.ne_of_lt hg)
/-- an object that reads lies in block b: what is left, and the error -/
structure InAt (b : Nat) (r : ByteArray) (e : Int) (w : World) : Prop where
  c0 : w.cell? ⟨b, 0, none⟩ = some (.string r)
  c1 : w.cell? ⟨b, 1, none⟩ = some (.int .i64 e)
  fr : ∀ j, w.frozen? ⟨b, j, none⟩ = false
  lt : b < w.heap.size

theorem InAt.alloc {b : Nat} {r : ByteArray} {e : Int} {w : World} (h : InAt b r e w) (o : Obj) : InAt b r e (w.alloc o) :=
  ⟨(cell_old _ _ _ _ h.lt).trans h.c0, (cell_old _ _ _ _ h.lt).trans h.c1, fun j => (free_old _ _ _ _ h.lt).trans (h.fr j), by have := h.lt; simp; omega⟩
theorem ne_cell (b i j : Nat) (h : i ≠ j) : (⟨b, i, none⟩ : Addr) ≠ ⟨b, j, none⟩ := by simp only [ne_eq, Addr.mk.injEq, not_and]; omega
theorem InAt.rest {b : Nat} {r : ByteArray} {e : Int} {w : World} (h : InAt b r e w) (r' : ByteArray) : InAt b r' e (w.setCell ⟨b, 0, none⟩ (.string r')) :=
  ⟨World.cell?_setCell_same _ _ _ h.c0, (World.cell?_setCell_other _ _ _ _ (ne_cell b 0 1 (by decide))).trans h.c1, fun j => by rw [World.frozen?_setCell]; exact h.fr j, by have := h.lt; simp [World.setCell]; exact this⟩
theorem InAt.code {b : Nat} {r : ByteArray} {e : Int} {w : World} (h : InAt b r e w) (e' : Int) : InAt b r e' (w.setCell ⟨b, 1, none⟩ (.int .i64 e')) :=
  ⟨(World.cell?_setCell_other _ _ _ _ (ne_cell b 1 0 (by decide))).trans h.c0, World.cell?_setCell_same _ _ _ h.c1, fun j => by rw [World.frozen?_setCell]; exact h.fr j, by have := h.lt; simp [World.setCell]; exact this⟩

end Go.Proofs.YtgponfdcagnhhaaGreatDoor
end
