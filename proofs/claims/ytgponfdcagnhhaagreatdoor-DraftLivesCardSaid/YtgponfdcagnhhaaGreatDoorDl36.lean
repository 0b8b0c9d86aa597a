/-
  WHAT THE WALKS OF METHODS AND REPLIES SHARE: an Out's box, rows beside written boxes, heads that were read.
-/
import Derived.Test.YtgponfdcagnhhaaGreatDoorDl06
import Derived.Test.YtgponfdcagnhhaaGreatDoorDl28
import Derived.Test.YtgponfdcagnhhaaGreatDoorDl30
import Derived.Test.YtgponfdcagnhhaaGreatDoorDl33
import Derived.Test.YtgponfdcagnhhaaGreatDoorDl35

section
namespace Go.Proofs.YtgponfdcagnhhaaGreatDoor
open Go.ChangeShapes Go.WideShapes Go.ChangeAt Go.RowKit
theorem OutB.zero {w W : World} (h : Below w.heap.size w W) (n : Nat) (hn : n = W.heap.size) (t : TypeId) : OutB w n [] (W.alloc (.cells #[.string ⟨#[]⟩, .int .i64 0] t)) := by
  subst hn
  exact OutB.new h [] t
theorem PrAt.aside {W : World} {b o : Nat} {x : Hd.Pr} (h : PrAt W b o x) {g : Nat} (hg : g ≠ b) (j : Nat) (v : Value) : PrAt (W.setCell ⟨g, j, none⟩ v) b o x :=
  ⟨(aside_cell hg _ _ _).trans h.c0, (aside_cell hg _ _ _).trans h.c1, (aside_cell hg _ _ _).trans h.c2, (aside_cell hg _ _ _).trans h.c3⟩
theorem Prs.aside {W : World} {A : Option Addr} {l : List Hd.Pr} (h : Prs W A l) {g : Nat} (hg : ∀ a, A = some a → g ≠ a.block) (j : Nat) (v : Value) : Prs (W.setCell ⟨g, j, none⟩ v) A l := ⟨fun i hi => by
  obtain ⟨b, off, rfl, hb, hat⟩ := h.at_ i hi
  exact ⟨b, off, rfl, by simpa [World.setCell] using hb, hat.aside (hg _ rfl) j v⟩⟩
end Go.Proofs.YtgponfdcagnhhaaGreatDoor
end
