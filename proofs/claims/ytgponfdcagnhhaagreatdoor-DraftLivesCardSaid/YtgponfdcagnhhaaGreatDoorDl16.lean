/-
  A BLOCK's CELLS as a list: written one by one; carried along.
-/

import Derived.WalkKit
import Derived.ProofKit
import Derived.OpenShut
import Derived.Below
import Derived.Deep.AppendLies
section
namespace Go.Proofs.YtgponfdcagnhhaaGreatDoor
open Go.ChangeShapes Go.WideShapes Go.ChangeAt Go.RowKit
/-- block q holds these, from its front -/
def Cels (W : World) (q : Nat) (xs : List Value) : Prop := ∀ j x, xs[j]? = some x → W.cell? ⟨q, j, none⟩ = some x
theorem Cels.on {W W' : World} {B q : Nat} {xs : List Value} (h : Cels W q xs) (hb : Below B W W') (hq : q < B) : Cels W' q xs := fun j x hj => (hb.cell (p := ⟨q, j, none⟩) hq).trans (h j x hj)
theorem Cels.put {W : World} {q : Nat} {xs : List Value} (h : Cels W q xs) (j : Nat) (v : Value) (hj : j < xs.length) : Cels (W.setCell ⟨q, j, none⟩ v) q (xs.set j v) := fun i x hi => by
  rw [List.getElem?_set] at hi
  by_cases e : j = i
  · subst e
    rw [if_pos rfl, if_pos hj] at hi
    obtain rfl := Option.some.inj hi
    exact World.cell?_setCell_same W ⟨q, j, none⟩ _ (h j xs[j] (List.getElem?_eq_getElem hj))
  · rw [if_neg e] at hi
    exact (World.cell?_setCell_other W ⟨q, j, none⟩ ⟨q, i, none⟩ _ (by simp only [ne_eq, Addr.mk.injEq, not_and]; omega)).trans (h i x hi)
theorem Cels.aside {W : World} {q : Nat} {xs : List Value} (h : Cels W q xs) {g : Nat} (hg : g ≠ q) (j : Nat) (v : Value) : Cels (W.setCell ⟨g, j, none⟩ v) q xs := fun i x hi =>
  (World.cell?_setCell_other W ⟨g, j, none⟩ ⟨q, i, none⟩ _ (by simp only [ne_eq, Addr.mk.injEq, not_and]; omega)).trans (h i x hi)
theorem Cels.new (W : World) (c : Array Value) (t : TypeId) : Cels (W.alloc (.cells c t)) W.heap.size c.toList := fun j x hj => (World.cell?_alloc_new W c t j).trans (by simpa using hj)
/-- nothing of block q is frozen -/
def Soft (W : World) (q : Nat) : Prop := ∀ j, W.frozen? ⟨q, j, none⟩ = false
theorem Soft.on {W W' : World} {B q : Nat} (h : Soft W q) (hb : Below B W W') (hq : q < B) : Soft W' q := fun j => (hb.frozen (p := ⟨q, j, none⟩) hq).trans (h j)
theorem Soft.put {W : World} {q : Nat} (h : Soft W q) (p : Addr) (v : Value) : Soft (W.setCell p v) q := fun j => (World.frozen?_setCell W p ⟨q, j, none⟩ v).trans (h j)
theorem Soft.new (W : World) (c : Array Value) (t : TypeId) : Soft (W.alloc (.cells c t)) W.heap.size := fun j => by simp
end Go.Proofs.YtgponfdcagnhhaaGreatDoor
end
