/-
  BOXES OF LINES; ACTS THAT COME IN; the example, plain.
-/
import Derived.Test.YtfbajmiiecmelabDoorLo40

section
namespace Go.Proofs.YtfbajmiiecmelabDoor
open Go.ChangeShapes Go.WideShapes Go.ChangeAt Go.RowKit
/-- a variable's box that holds a line; the line lies elsewhere -/
def LnBox (w : World) (b : Nat) (l : List It) (W : World) : Prop := ∃ A c U, BoxC w b [.slice A l.length c] W ∧ LnU U W (.agg #[.slice A l.length c]) l ∧ ¬ U b
theorem LnBox.on {w W W' : World} {b : Nat} {l : List It} (h : LnBox w b l W) (hb : Below W.heap.size W W') : LnBox w b l W' := by
  obtain ⟨A, c, U, h1, h2, h3⟩ := h
  exact ⟨A, c, U, h1.on hb, h2.on hb, h3⟩
theorem LnBox.new {w W : World} (hs : w.heap.size ≤ W.heap.size) {A : Option Addr} {c : Nat} {l : List It} {U : Nat → Prop} (h : LnU U W (.agg #[.slice A l.length c]) l) : LnBox w W.heap.size l (W.alloc (.cells #[.slice A l.length c] 34)) := by
  refine ⟨A, c, _, BoxC.new hs #[.slice A l.length c] 34, h.cut.on (one_alloc W _), fun h => ?_⟩
  have := h.2
  omega
theorem LnBox.put {w W : World} {b : Nat} {l l' : List It} {A : Option Addr} {c : Nat} {U : Nat → Prop} (h : LnBox w b l W) (hu : LnU U W (.agg #[.slice A l'.length c]) l') (hb : ¬ U b) : LnBox w b l' (W.setCell ⟨b, 0, none⟩ (.slice A l'.length c)) := by
  obtain ⟨A0, c0, U0, h1, h2, h3⟩ := h
  exact ⟨A, c, U, h1.put 0 (.slice A l'.length c) (by simp), hu.aside hb 0 _, hb⟩
/-! ### acts that come in -/
structure AcP where
  d : Nat
  x : Ml
  A : Option Addr
  c : Nat
def acL (p : AcP) : List Value := .int .u8 (p.d : Int) :: maL p.x p.A p.c
structure Acs (w : World) (A : Option Addr) (l : List AcP) : Prop where
  at_ : ∀ i (h : i < l.length), ∃ b off, A = some ⟨b, off, none⟩ ∧ b < w.heap.size ∧ ∀ j v, (acL l[i])[j]? = some v → w.cell? ⟨b, off + i * 8 + j, none⟩ = some v
  in_ : ∀ p ∈ l, MaIn w p.x p.A p.c
  dlt : ∀ p ∈ l, p.d < 256
theorem MaIn.on {w w' : World} {x : Ml} {A : Option Addr} {c : Nat} (h : MaIn w x A c) (hb : Below w.heap.size w w') : MaIn w' x A c := ⟨h.row.on hb, h.cap, h.big, h.txt, h.fits⟩
theorem Acs.on {w w' : World} {A : Option Addr} {l : List AcP} (h : Acs w A l) (hb : Below w.heap.size w w') : Acs w' A l := ⟨fun i hi => by
  obtain ⟨b, off, hA, hlt, hc⟩ := h.at_ i hi
  exact ⟨b, off, hA, Nat.lt_of_lt_of_le hlt hb.size, fun j v hv => (hb.cell (p := ⟨b, off + i * 8 + j, none⟩) hlt).trans (hc j v hv)⟩, fun p hp => (h.in_ p hp).on hb, h.dlt⟩
/-! ### the chapter's example -/
def e3 : Ml := ⟨3, [97], [], [], [], 0, 0⟩
def e5 : Ml := ⟨5, [97], [], [], [], 0, 0⟩
theorem e3_go (w : World) : MaGo w e3 none 0 := ⟨⟨by decide, by decide, by decide, by decide, by decide, lite_nil, Prs.nil _ _⟩, ⟨by decide, by decide, by decide, fun p hp => absurd hp (by simp [e3])⟩⟩
theorem e5_go (w : World) : MaGo w e5 none 0 := ⟨⟨by decide, by decide, by decide, by decide, by decide, lite_nil, Prs.nil _ _⟩, ⟨by decide, by decide, by decide, fun p hp => absurd hp (by simp [e5])⟩⟩
theorem law13Awake_any (w : World) (hL : Len w) : Calls Tryd.prog 16 #[] w fun e w' => e = .returned (.bool true) ∧ Below w.heap.size w w' := by
  have HA := Lib.hid (awake13_any w hL)
  go_enter Tryd.func16, Tryd.ntmps16
  go_wp2_with fail
  refine HA.out.mono ?_
  rintro x w1 ⟨rfl, b1⟩
  have B1 := Lib.hid b1
  clear b1
  go_wp2_with fail
  go_ret
  exact ⟨rfl, B1.out⟩
/-- the line at each step -/
def x3 (a b : Bool) : It := ⟨e3, a, b⟩
def x5 (a b : Bool) : It := ⟨e5, a, b⟩
theorem ex_add3 : Ln.add [] ⟨e3, false, false⟩ = [x3 false false] ∧ Ln.acode [] ⟨e3, false, false⟩ = 0 := by decide
theorem ex_add5 : Ln.add [x3 false false] ⟨e5, false, false⟩ = [x3 false false, x5 false false] ∧ Ln.acode [x3 false false] ⟨e5, false, false⟩ = 0 := by decide
theorem ex_lend3 : Ln.lend [x3 false false, x5 false false] = [x3 true false, x5 false false] ∧ Ln.lentIt [x3 false false, x5 false false] = x3 true false ∧ Ln.next [x3 false false, x5 false false] = 0 := by decide
theorem ex_lend5 : Ln.lend [x3 true false, x5 false false] = [x3 true false, x5 true false] ∧ Ln.lentIt [x3 true false, x5 false false] = x5 true false ∧ Ln.next [x3 true false, x5 false false] = 1 := by decide
theorem ex_back3 : Ln.back [x3 true false, x5 true false] 3 = [x3 false true, x5 true false] ∧ Ln.bcode [x3 true false, x5 true false] 3 = 0 := by decide
theorem ex_first : tellM [x3 false true, x5 true false] (Ln.next [x3 false true, x5 true false]) = e3 ∧ Ln.next [x3 false true, x5 true false] = 0 := by decide
end Go.Proofs.YtfbajmiiecmelabDoor
end
