/-
  A PAIR READ: the program's, walked.
-/
import Derived.Test.YtgponfdcagnhhaaGreatDoorDl31
import Derived.Test.YtgponfdcagnhhaaGreatDoorDl33

section
namespace Go.Proofs.YtgponfdcagnhhaaGreatDoor
open Go.ChangeShapes Go.WideShapes Go.ChangeAt Go.RowKit
/-- while a pair is read: the reader, the answer's box, the pair's box -/
structure RdC (w : World) (b : Nat) (R : LSt → World → Prop) (s : LSt) (c : Nat) (xs : List Value) (p : Nat) (ys : List Value) (W : World) : Prop where
  ri : R s W
  rc : BoxC w c xs W
  rp : BoxC w p ys W
  cb : c ≠ b
  pb : p ≠ b
  cp : c ≠ p
  G : w.grownBy W (some b)
theorem RdC.putc {w : World} {b : Nat} {R : LSt → World → Prop} (hR : Rder b R) {s : LSt} {c p : Nat} {xs ys : List Value} {W : World} (h : RdC w b R s c xs p ys W) (j : Nat) (v : Value) (hj : j < xs.length) : RdC w b R s c (xs.set j v) p ys (W.setCell ⟨c, j, none⟩ v) :=
  ⟨hR.put h.ri h.cb j v, h.rc.put j v hj, h.rp.aside h.cp j v, h.cb, h.pb, h.cp, grown_far h.G h.rc.ge j v⟩
/-- the answer is laid into its box -/
theorem RdC.last {w : World} {b : Nat} {R : LSt → World → Prop} (hR : Rder b R) {s : LSt} {c p : Nat} {xs ys : List Value} {W : World} (h : RdC w b R s c xs p ys W) (hx : xs.length = 4) (v0 v1 v2 v3 : Value) :
    ∃ W', W' = (((W.setCell ⟨c, 0, none⟩ v0).setCell ⟨c, 1, none⟩ v1).setCell ⟨c, 2, none⟩ v2).setCell ⟨c, 3, none⟩ v3 ∧ R s W' ∧ w.grownBy W' (some b) ∧ W'.cell? ⟨c, 0, none⟩ = some v0 ∧ W'.cell? ⟨c, 1, none⟩ = some v1 ∧ W'.cell? ⟨c, 2, none⟩ = some v2 ∧ W'.cell? ⟨c, 3, none⟩ = some v3 := by
  match xs, hx with
  | [x0, x1, x2, x3], _ =>
    have h1 := (((h.putc hR 0 v0 (by simp)).putc hR 1 v1 (by simp)).putc hR 2 v2 (by simp)).putc hR 3 v3 (by simp)
    exact ⟨_, rfl, h1.ri, h1.G, h1.rc.cs 0 _ rfl, h1.rc.cs 1 _ rfl, h1.rc.cs 2 _ rfl, h1.rc.cs 3 _ rfl⟩
end Go.Proofs.YtgponfdcagnhhaaGreatDoor
end
