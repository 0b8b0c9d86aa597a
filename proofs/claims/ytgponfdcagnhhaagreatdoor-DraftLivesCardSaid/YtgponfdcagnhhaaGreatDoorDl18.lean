/-
  WHAT IS WRONG WITH A HEAD: walked, the program's and the document's; what is gone through.
-/
import Derived.Test.YtgponfdcagnhhaaGreatDoorDl17
import Derived.Deep.RegionWith
section
namespace Go.Proofs.YtgponfdcagnhhaaGreatDoor
open Go.ChangeShapes Go.WideShapes Go.ChangeAt Go.RowKit
/-- texts of a length that can be walked -/
def Lite (l : List Hd.Pr) : Prop := ∀ i, i < l.length → (Hd.pr l i).key.length ≤ 100000 ∧ (Hd.pr l i).txt.length ≤ 100000
/-- is a head gone through? -/
def lightB (l : List Hd.Pr) : Bool := decide (l.length ≤ 12) && l.all fun p => decide (p.key.length ≤ 40) && decide (p.txt.length ≤ 100)
theorem light_lite {l : List Hd.Pr} (h : lightB l = true) : l.length ≤ 12 ∧ Lite l ∧ ∀ p ∈ l, p.key.length ≤ 40 ∧ p.txt.length ≤ 100 := by
  unfold lightB at h
  rw [Bool.and_eq_true, decide_eq_true_eq, List.all_eq_true] at h
  have h2 : ∀ p ∈ l, p.key.length ≤ 40 ∧ p.txt.length ≤ 100 := fun p hp => by
    have := h.2 p hp
    rw [Bool.and_eq_true, decide_eq_true_eq, decide_eq_true_eq] at this
    exact this
  refine ⟨h.1, fun i hi => ?_, h2⟩
  rw [Hd.pr_at hi]
  have := h2 _ (List.getElem_mem hi)
  omega
end Go.Proofs.YtgponfdcagnhhaaGreatDoor
end
