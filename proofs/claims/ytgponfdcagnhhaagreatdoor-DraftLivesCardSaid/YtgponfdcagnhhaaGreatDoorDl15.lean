/-
  HEADS IN MEMORY; pairs held against each other; the first pair for which something holds: walked.
-/
import Derived.Test.YtgponfdcagnhhaaGreatDoorDl02
import Derived.Test.YtgponfdcagnhhaaGreatDoorDl04
import Derived.Test.YtgponfdcagnhhaaGreatDoorDl07
import Derived.Test.YtgponfdcagnhhaaGreatDoorDl12
import Derived.Test.YtgponfdcagnhhaaGreatDoorDl14
import Derived.Laws.StructEq
import Derived.Laws.IdiomStrings
import Derived.Deep.RegionHeld3
import Derived.Test.YtgponfdcagnhhaaGreatDoorRows
section
namespace Go.Proofs.YtgponfdcagnhhaaGreatDoor
open Go.ChangeShapes Go.WideShapes Go.ChangeAt Go.RowKit
/-- a pair's cells -/
structure PrAt (w : World) (b o : Nat) (x : Hd.Pr) : Prop where
  c0 : w.cell? ⟨b, o, none⟩ = some (.string (ofL x.key))
  c1 : w.cell? ⟨b, o + 1, none⟩ = some (.int .u8 (x.kind : Int))
  c2 : w.cell? ⟨b, o + 2, none⟩ = some (.int .i64 x.num)
  c3 : w.cell? ⟨b, o + 3, none⟩ = some (.string (ofL x.txt))
/-- a head lies there -/
structure Prs (w : World) (A : Option Addr) (l : List Hd.Pr) : Prop where
  at_ : ∀ i, i < l.length → ∃ b off, A = some ⟨b, off, none⟩ ∧ b < w.heap.size ∧ PrAt w b (off + i * 4) (Hd.pr l i)
theorem PrAt.below {w w' : World} {B b o : Nat} {x : Hd.Pr} (h : PrAt w b o x) (hb : Below B w w') (hB : b < B) : PrAt w' b o x :=
  ⟨(hb.cell (p := ⟨b, o, none⟩) hB).trans h.c0, (hb.cell (p := ⟨b, o + 1, none⟩) hB).trans h.c1, (hb.cell (p := ⟨b, o + 2, none⟩) hB).trans h.c2, (hb.cell (p := ⟨b, o + 3, none⟩) hB).trans h.c3⟩
theorem Prs.on {w w' : World} {A : Option Addr} {l : List Hd.Pr} (h : Prs w A l) (hb : Below w.heap.size w w') : Prs w' A l := ⟨fun i hi => by
  obtain ⟨b, off, hA, hlt, hat⟩ := h.at_ i hi
  exact ⟨b, off, hA, Nat.lt_of_lt_of_le hlt hb.size, hat.below hb hlt⟩⟩
theorem Prs.nil (w : World) (A : Option Addr) : Prs w A [] := ⟨fun i hi => absurd hi (by simp)⟩
theorem pr_take {l : List Hd.Pr} {k i : Nat} (h : i < k) : Hd.pr (l.take k) i = Hd.pr l i := by
  unfold Hd.pr
  simp only [List.getD_eq_getElem?_getD]
  rw [List.getElem?_take, if_pos h]
theorem Prs.take {w : World} {A : Option Addr} {l : List Hd.Pr} (h : Prs w A l) (k : Nat) : Prs w A (l.take k) := ⟨fun i hi => by
  rw [List.length_take] at hi
  rw [pr_take (by omega)]
  exact h.at_ i (by omega)⟩
def prL (x : Hd.Pr) : List Value := [.string (ofL x.key), .int .u8 (x.kind : Int), .int .i64 x.num, .string (ofL x.txt)]
def prs (l : List Hd.Pr) : List Value := l.flatMap prL
theorem rown_prs {w : World} {B E : Nat} {v : Value} {l : List Hd.Pr} (h : w.ownsRow B E 4 v l.length (prs l)) :
    ∃ A c, v = .slice A l.length c ∧ l.length ≤ c ∧ (A = none → c = 0) ∧ Prs w A l := by
  obtain ⟨A, c, rfl, hc, hb, hx⟩ := Rw.own_cells h
  refine ⟨A, c, rfl, hc, ?_, ⟨fun i hi => ?_⟩⟩
  · rintro rfl
    rcases h.2 with ⟨e, _⟩ | ⟨g, cap, cur, e, _⟩
    · exact (Value.slice.inj e).2.2
    · exact absurd (Value.slice.inj e).1 (by simp)
  · obtain ⟨g, rfl, hg, hcell⟩ := hx (by omega)
    have at_ : ∀ t, t < 4 → w.cell? ⟨g, i * 4 + t, none⟩ = (prL l[i])[t]? := fun t ht => by
      rw [hcell _ (by omega)]
      exact Rw.flat_get prL 4 (fun _ => rfl) (by omega) l i t hi ht
    refine ⟨g, 0, rfl, hg, ?_⟩
    rw [Hd.pr_at hi, Nat.zero_add]
    exact ⟨at_ 0 (by omega), at_ 1 (by omega), at_ 2 (by omega), at_ 3 (by omega)⟩
/-! ### two pairs -/
theorem guardPr : Tryz.prog.eqGuardType Tryz.prog.depth 84 = false := by kernel_rfl
def prEq (x y : Hd.Pr) : Bool := (x.key == y.key) && (x.kind == y.kind) && (x.num == y.num) && (x.txt == y.txt)
end Go.Proofs.YtgponfdcagnhhaaGreatDoor
end
