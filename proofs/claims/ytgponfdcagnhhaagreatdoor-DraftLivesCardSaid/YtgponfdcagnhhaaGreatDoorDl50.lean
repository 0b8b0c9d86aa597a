/-
  ACTS THAT COME IN; which of them are gone through: walked.
-/
import Derived.Test.YtgponfdcagnhhaaGreatDoorDl49

section
namespace Go.Proofs.YtgponfdcagnhhaaGreatDoor
open Go.ChangeShapes Go.WideShapes Go.ChangeAt Go.RowKit
structure RaP where
  k : Nat
  s : Sh
  x : Bd
  A : Option Addr
  c : Nat
def raL (p : RaP) : List Value := actL p.k p.s p.x p.A p.c
/-- an act that came in -/
structure RaIn (w : World) (p : RaP) : Prop where
  row : Prs w p.A p.x.want
  cap : p.x.want.length ≤ p.c
  big : p.x.want.length ≤ 9223372036854775807
  s : p.s.sort < 256
  k : p.k < 256
theorem RaIn.on {w w' : World} {p : RaP} (h : RaIn w p) (hb : Below w.heap.size w w') : RaIn w' p := ⟨h.row.on hb, h.cap, h.big, h.s, h.k⟩
structure Ras (w : World) (A : Option Addr) (l : List RaP) : Prop where
  row : Rws w A (l.flatMap raL)
  h : ∀ p ∈ l, RaIn w p
theorem Ras.on {w w' : World} {A : Option Addr} {l : List RaP} (h : Ras w A l) (hb : Below w.heap.size w w') : Ras w' A l := ⟨Rws.on h.row hb, fun p hp => (h.h p hp).on hb⟩
structure RaFew (p : RaP) : Prop where
  s1 : p.s.name.length ≤ 40
  s2 : p.s.to.length ≤ 40
  b1 : p.x.shop.length ≤ 40
  b2 : p.x.to.length ≤ 40
  key : p.x.key.length ≤ 100
  want : lightB p.x.want = true
theorem RaFew.ok {w : World} {p : RaP} (h : RaFew p) (hi : RaIn w p) : BdOk w p.x p.A p.c := by
  obtain ⟨h1, h2, -⟩ := light_lite h.want
  exact ⟨by have := h.b1; omega, by have := h.b2; omega, by have := h.key; omega, by omega, hi.cap, h2, hi.row⟩
end Go.Proofs.YtgponfdcagnhhaaGreatDoor
end
