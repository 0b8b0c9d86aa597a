/-
  slices.Clone OF PAIRS: the answer is memory of its own.
-/
import Derived.Test.YtgponfdcagnhhaaGreatDoorDl25
import Derived.Test.YtgponfdcagnhhaaGreatDoorDl36
import Derived.Deep.RegionHeld3
import Derived.Deep.DeepCutAuto
section
namespace Go.Proofs.YtgponfdcagnhhaaGreatDoor
open Go.ChangeShapes Go.WideShapes Go.ChangeAt Go.RowKit
/-- pairs in memory of one's own -/
def OwnPrs (B : Nat) (w : World) (A : Option Addr) (c : Nat) (l : List Hd.Pr) : Prop := w.ownsRow B 84 4 (.slice A l.length c) l.length (prs l)
theorem OwnPrs.row {B : Nat} {w : World} {A : Option Addr} {c : Nat} {l : List Hd.Pr} (h : OwnPrs B w A c l) : Prs w A l ∧ l.length ≤ c ∧ ∀ a, A = some a → B ≤ a.block ∧ a.block < w.heap.size := by
  obtain ⟨A2, c2, e2, hc, -, hP⟩ := rown_prs h
  obtain ⟨rfl, -, rfl⟩ := Value.slice.inj e2
  refine ⟨hP, hc, fun a ha => ?_⟩
  subst ha
  exact World.ownsRow.lt h a.block rfl
theorem OwnPrs.on {B : Nat} {w w' : World} {A : Option Addr} {c : Nat} {l : List Hd.Pr} (h : OwnPrs B w A c l) (hb : Below w.heap.size w w') : OwnPrs B w' A c l :=
  World.ownsRow.kept (row := none) h ⟨hb.os, hb.tape, hb.output, hb.size, fun k hk _ => hb.block k hk⟩ (by
    cases A with
    | none => exact Or.inl rfl
    | some a => exact Or.inr (by simp [Value.ownBlock]))
theorem OwnPrs.aside {B : Nat} {w : World} {A : Option Addr} {c : Nat} {l : List Hd.Pr} (h : OwnPrs B w A c l) {g : Nat} (hg : ∀ a, A = some a → g ≠ a.block) (j : Nat) (v : Value) : OwnPrs B (w.setCell ⟨g, j, none⟩ v) A c l :=
  World.ownsRow.kept (row := some g) h ⟨rfl, rfl, rfl, by simp [World.setCell], fun k _ hk => heap_setCell_other w ⟨g, j, none⟩ k v (fun e => hk (by simp [e]))⟩ (by
    cases A with
    | none => exact Or.inl rfl
    | some a => exact Or.inr (by simp only [Value.ownBlock, ne_eq, Option.some.injEq]; exact fun e => hg a rfl e.symm))
end Go.Proofs.YtgponfdcagnhhaaGreatDoor
end
