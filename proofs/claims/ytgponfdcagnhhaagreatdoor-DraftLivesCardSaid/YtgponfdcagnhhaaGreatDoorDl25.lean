/-
  A RULE's COPY, as the laws make it: walked.
-/
import Derived.Test.YtgponfdcagnhhaaGreatDoorDl22
import Derived.Deep.AppendLies
import Derived.Deep.RegionHeld3
import Derived.Deep.DeepCutAuto
section
namespace Go.Proofs.YtgponfdcagnhhaaGreatDoor
open Go.ChangeShapes Go.WideShapes Go.ChangeAt Go.RowKit
/-- the boxes of To: the rule, the answer -/
structure ToC (w : World) (p q : Nat) (r : Ru) (A : Option Addr) (c : Nat) (W : World) : Prop where
  rp : Cels W p (ruL r A c)
  lp : p < W.heap.size
  rq : ∃ (s : Int) (k : ByteArray) (a : Option Addr) (n m : Nat) (b : Bool), W.cell? ⟨q, 0, none⟩ = some (.int .u8 s) ∧ W.cell? ⟨q, 1, none⟩ = some (.string k) ∧ W.cell? ⟨q, 2, none⟩ = some (.slice a n m) ∧ W.cell? ⟨q, 3, none⟩ = some (.bool b)
  sq : Soft W q
  lq : q < W.heap.size
  ne : q ≠ p
  gq : w.heap.size ≤ q
  B : Below w.heap.size w W
abbrev ToS (w : World) (p q : Nat) (r : Ru) (A : Option Addr) (c : Nat) (W : World) : Prop :=
  (W.cell? ⟨p, 0, none⟩ = some (.int .u8 (r.sort : Int)) ∧ W.cell? ⟨p, 1, none⟩ = some (.string (ofL r.key)) ∧ W.cell? ⟨p, 2, none⟩ = some (.slice A r.want.length c) ∧ W.cell? ⟨p, 3, none⟩ = some (.bool r.all) ∧ p < W.heap.size) ∧ ToC w p q r A c W
theorem ToC.s {w : World} {p q : Nat} {r : Ru} {A : Option Addr} {c : Nat} {W : World} (h : ToC w p q r A c W) : ToS w p q r A c W := ⟨⟨h.rp 0 _ rfl, h.rp 1 _ rfl, h.rp 2 _ rfl, h.rp 3 _ rfl, h.lp⟩, h⟩
theorem ToC.on {w : World} {p q : Nat} {r : Ru} {A : Option Addr} {c : Nat} {W W' : World} (h : ToC w p q r A c W) (hb : Below W.heap.size W W') : ToC w p q r A c W' := by
  obtain ⟨s, k, a, n, m, b, h0, h1, h2, h3⟩ := h.rq
  exact ⟨h.rp.on hb h.lp, Nat.lt_of_lt_of_le h.lp hb.size, ⟨s, k, a, n, m, b, (hb.cell (p := ⟨q, 0, none⟩) h.lq).trans h0, (hb.cell (p := ⟨q, 1, none⟩) h.lq).trans h1, (hb.cell (p := ⟨q, 2, none⟩) h.lq).trans h2, (hb.cell (p := ⟨q, 3, none⟩) h.lq).trans h3⟩, h.sq.on hb h.lq, Nat.lt_of_lt_of_le h.lq hb.size, h.ne, h.gq, bthen h.B hb (Nat.le_refl _)⟩
theorem ToS.on {w : World} {p q : Nat} {r : Ru} {A : Option Addr} {c : Nat} {W W' : World} (h : ToS w p q r A c W) (hb : Below W.heap.size W W') : ToS w p q r A c W' := (h.2.on hb).s
end Go.Proofs.YtgponfdcagnhhaaGreatDoor
end
