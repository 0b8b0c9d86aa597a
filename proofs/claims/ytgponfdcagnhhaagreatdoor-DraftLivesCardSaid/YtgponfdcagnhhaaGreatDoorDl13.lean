/-
  ROWS OF ANY ELEMENTS in memory, by their cells.
-/
import Derived.Test.YtgponfdcagnhhaaGreatDoorDl12
import Derived.Deep.LoopGhost
import Derived.Deep.AppendLies
import Derived.Laws.AppendOwnNone
import Derived.ArgAppend
import Derived.Lib.Walk
import Derived.Lib.SliceRun
import Derived.Lib.AppendZerosOnto
section
namespace Go.Proofs.YtgponfdcagnhhaaGreatDoor
open Go.ChangeShapes Go.WideShapes Go.ChangeAt Go.RowKit
/-- the cells of a row lie at A -/
structure Rws (w : World) (A : Option Addr) (cs : List Value) : Prop where
  at_ : ∀ j v, cs[j]? = some v → ∃ b off, A = some ⟨b, off, none⟩ ∧ b < w.heap.size ∧ w.cell? ⟨b, off + j, none⟩ = some v
theorem Rws.on {w w' : World} {A : Option Addr} {cs : List Value} (h : Rws w A cs) (hb : Below w.heap.size w w') : Rws w' A cs := ⟨fun j v hv => by
  obtain ⟨b, off, hA, hlt, hc⟩ := h.at_ j v hv
  exact ⟨b, off, hA, Nat.lt_of_lt_of_le hlt hb.size, (hb.cell (p := ⟨b, off + j, none⟩) hlt).trans hc⟩⟩
theorem Rws.far {w w' : World} {A : Option Addr} {cs : List Value} {B : Nat} (h : Rws w A cs) (hb : Below B w w') (hB : ∀ a, A = some a → a.block < B) : Rws w' A cs := ⟨fun j v hv => by
  obtain ⟨b, off, rfl, hlt, hc⟩ := h.at_ j v hv
  exact ⟨b, off, rfl, Nat.lt_of_lt_of_le hlt hb.size, (hb.cell (p := ⟨b, off + j, none⟩) (hB ⟨b, off, none⟩ rfl)).trans hc⟩⟩
theorem Rws.nil (w : World) (A : Option Addr) : Rws w A [] := ⟨fun j v hv => by simp at hv⟩
theorem Rws.lies {w : World} {A : Option Addr} {cs : List Value} (h : Rws w A cs) (hp : 0 < cs.length) : ∃ b off, A = some ⟨b, off, none⟩ ∧ b < w.heap.size ∧ ∀ j v, cs[j]? = some v → w.cell? ⟨b, off + j, none⟩ = some v := by
  obtain ⟨b, off, e, hlt, -⟩ := h.at_ 0 _ (List.getElem?_eq_getElem hp)
  refine ⟨b, off, e, hlt, fun j v hv => ?_⟩
  obtain ⟨b', off', e', -, hc⟩ := h.at_ j v hv
  rw [e] at e'
  cases e'
  exact hc
theorem Rws.drop {w : World} {b off k : Nat} {cs : List Value} (h : Rws w (some ⟨b, off, none⟩) cs) : Rws w (some ⟨b, off + k, none⟩) (cs.drop k) := ⟨fun j v hv => by
  rw [List.getElem?_drop] at hv
  obtain ⟨b', off', e, hlt, hc⟩ := h.at_ (k + j) v hv
  cases e
  exact ⟨b, off + k, rfl, hlt, by rw [Nat.add_assoc]; exact hc⟩⟩
end Go.Proofs.YtgponfdcagnhhaaGreatDoor
end
