/-
  A HEAD READ: the program's, walked.
-/
import Derived.Test.YtgponfdcagnhhaaGreatDoorDl34
import Derived.Deep.AppendLies
section
namespace Go.Proofs.YtgponfdcagnhhaaGreatDoor
open Go.ChangeShapes Go.WideShapes Go.ChangeAt Go.RowKit
/-- while a head is read: the reader, the pairs so far in a row of one's own -/
structure RdL (w : World) (b : Nat) (R : LSt → World → Prop) (s : LSt) (v : Value) (h : List Hd.Pr) (W : World) : Prop where
  ri : R s W
  own : W.ownsRow w.heap.size 84 4 v h.length (prs h)
  G : w.grownBy W (some b)
  bw : b < w.heap.size
theorem RdL.on {w : World} {b : Nat} {R : LSt → World → Prop} (hR : Rder b R) {s : LSt} {v : Value} {h : List Hd.Pr} {W W' : World} (H : RdL w b R s v h W) (hb : Below W.heap.size W W') : RdL w b R s v h W' :=
  ⟨hR.on H.ri hb, Rw.own_on H.own hb, grown_below H.G hb, H.bw⟩
theorem RdL.row {w : World} {b : Nat} {R : LSt → World → Prop} {s : LSt} {v : Value} {h : List Hd.Pr} {W : World} (H : RdL w b R s v h W) : ∃ A c, v = .slice A h.length c ∧ h.length ≤ c ∧ Prs W A h ∧ ∀ a, A = some a → w.heap.size ≤ a.block := by
  obtain ⟨A, c, e, hc, -, hP⟩ := rown_prs H.own
  refine ⟨A, c, e, hc, hP, fun a ha => (H.own.lt a.block ?_).1⟩
  rw [e, ha]; rfl
end Go.Proofs.YtgponfdcagnhhaaGreatDoor
end
